/- takes, checkCases, Check. -/
import Derived.Deep.LoopGhost
import Derived.Test.YtolljdomnohmdabGreatDoorCas
import Derived.Test.YtolljdomnohmdabGreatDoorTrn
import Derived.Test.YtolljdomnohmdabGreatDoorM2
namespace Go.Proofs.YtolljdomnohmdabGreatDoor
open Go.RowKit

theorem ret_bool {x y : Bool} (h : x = y) : Ending.returned (.bool x) = Ending.returned (.bool y) := by rw [h]
theorem ret_int {x y : Int} (h : x = y) : Ending.returned (.int .i64 x) = Ending.returned (.int .i64 y) := by rw [h]

set_option maxHeartbeats 1000000 in
theorem takes_any (wd : List UInt8) (hn hv hw hp : Bool) (le mo : Int) (k n v wt : Int) (a : Option Addr) (m c : Nat) (w : World) :
    Calls Tryz.prog 108 #[.agg #[.string (B wd), .bool hn, .bool hv, .bool hw, .bool hp, .int .i64 le, .int .i64 mo], .agg #[.int .i64 k, .int .i64 n, .int .i64 v, .int .i64 wt, .slice a m c]] w fun e w' => e = .returned (.bool (takesB ⟨wd, hn, hv, hw, hp, le, mo⟩ n v wt m)) ∧ Kept w w' := by
  go_enter Tryz.func108, Tryz.ntmps108
  go_wp2_with fail
  all_goals (go_ret; refine ⟨?_, ((Kept.refl w).alloc _).alloc _⟩; refine ret_bool ?_; rw [Bool.eq_iff_iff]; cases hv <;> cases hw <;> cases hp <;> simp [takesB] at * <;> omega)
end Go.Proofs.YtolljdomnohmdabGreatDoor
namespace Go.Proofs.YtolljdomnohmdabGreatDoor
open Go.RowKit

theorem B_is (x l : List UInt8) : ((B x).toList == l) = (x == l) := by rw [toList_of, B_list]
theorem At.drop {w : World} {b f m : Nat} {l : List (List UInt8)} (h : At w (some ⟨b, f, Option.none⟩) m l) (k : Nat) (hk : k ≤ m) : At w (some ⟨b, f + k, Option.none⟩) (m - k) (l.drop k) := by
  refine ⟨by rw [List.length_drop, h.1], fun j hj => ?_⟩
  obtain ⟨b', f', e, hc⟩ := h.2 (k + j) (by omega)
  cases e
  refine ⟨b, f + k, rfl, ?_⟩
  rw [Nat.add_assoc, hc]
  simp [List.getD_eq_getElem?_getD]
theorem At.zero (w : World) (a : Option Addr) : At w a 0 [] := ⟨rfl, fun j hj => by omega⟩
theorem At.head {w : World} {a : Option Addr} {m : Nat} {x : List UInt8} {r : List (List UInt8)} (h : At w a m (x :: r)) : ∃ b f, a = some ⟨b, f, Option.none⟩ ∧ w.cell? ⟨b, f, Option.none⟩ = some (.string (B x)) ∧ m = r.length + 1 := by
  have hm := h.1
  rw [List.length_cons] at hm
  obtain ⟨b, f, e, hc⟩ := h.2 0 (by omega)
  exact ⟨b, f, e, by simpa using hc, hm.symm⟩

/-- A reader: its words, its error; the words lie below Bd. -/
def Rd (Bd : Nat) (w : World) (rb : Nat) (ws : List (List UInt8)) (e : Int) : Prop :=
  ∃ a c, Box Bd w 161 rb [.slice a ws.length c, .int .i64 e] ∧ ws.length ≤ c ∧ At w a ws.length ws ∧ ∀ b f, a = some ⟨b, f, none⟩ → b < Bd
theorem Rd.turns {S : Nat → Prop} {Bd : Nat} {w w' : World} {rb : Nat} {ws : List (List UInt8)} {e : Int} (h : Rd Bd w rb ws e) (t : Turns S w w') (hS : ∀ k, S k → Bd ≤ k ∧ k ≠ rb) : Rd Bd w' rb ws e := by
  obtain ⟨a, c, hb, hc, hat, hf⟩ := h
  refine ⟨a, c, hb.turns t (fun hs => (hS _ hs).2 rfl), hc, ⟨hat.1, fun j hj => ?_⟩, hf⟩
  obtain ⟨b, f, e1, h1⟩ := hat.2 j hj
  exact ⟨b, f, e1, t.cell h1 (cell_lt h1) (fun hs => by have := hf b f e1; have := (hS _ hs).1; simp at *; omega)⟩
theorem Rd.kept {Bd : Nat} {w w' : World} {rb : Nat} {ws : List (List UInt8)} {e : Int} (h : Rd Bd w rb ws e) (t : Kept w w') : Rd Bd w' rb ws e := h.turns t.turns (fun _ hs => hs.elim)
theorem Rd.lt {Bd : Nat} {w : World} {rb : Nat} {ws : List (List UInt8)} {e : Int} (h : Rd Bd w rb ws e) : Bd ≤ rb ∧ rb < w.heap.size := by
  obtain ⟨a, c, hb, _⟩ := h
  exact hb.lt

set_option maxHeartbeats 1000000 in
theorem next_any {Bd : Nat} {w : World} {rb : Nat} {x : List UInt8} {r : List (List UInt8)} {e : Int} (h : Rd Bd w rb (x :: r) e) (hl : r.length ≤ 1000000) :
    Calls Tryz.prog 122 #[.pointer (some ⟨rb, 0, none⟩)] w fun en w' => en = .returned (.string (B x)) ∧ Rd Bd w' rb r e ∧ Turns (fun k => k = rb) w w' := by
  obtain ⟨a, c, hb, hc, hat, hf⟩ := h
  obtain ⟨b, f, rfl, hx, hm⟩ := hat.head
  have hbl := hf b f rfl
  rw [List.length_cons] at hc hat
  have c0 : w.cell? ⟨rb, 0, none⟩ = some (.slice (some ⟨b, f, none⟩) (r.length + 1) c) := hb.cell 0 (by simp)
  have f0 := hb.frozen 0
  have hlt := hb.lt.2
  have hne : rb ≠ b := by have := hb.lt.1; omega
  have HB : Hid (Box Bd w 161 rb [.slice (some ⟨b, f, none⟩) (r.length + 1) c, .int .i64 e]) := hb
  have HA : Hid (At w (some ⟨b, f, none⟩) (r.length + 1) (x :: r)) := hat
  clear hb hat hf hm
  by_cases hcap : c = 1
  · subst hcap
    obtain rfl : r = [] := List.eq_nil_of_length_eq_zero (by omega)
    go_enter Tryz.func122, Tryz.ntmps122
    go_wp2_with fail
    go_ret
    exact ⟨rfl, ⟨_, 0, HB.out.set 0 _, by simp, At.zero _ _, fun b' f' e' => by cases e'; exact hbl⟩, turn_set _ _ _ _⟩
  · have b1 : (1 : Int) ≤ (c : Int) := by omega
    have b2 : (1 : Int) ≤ (r.length : Int) + 1 := by omega
    go_enter Tryz.func122, Tryz.ntmps122
    go_wp2_with fail
    go_ret
    have t1 := turn_set w rb 0 (.slice (some ⟨b, f + 1, none⟩) r.length (c - 1))
    have hd := HA.out.drop 1 (by omega)
    rw [Nat.add_sub_cancel, List.drop_one, List.tail_cons] at hd
    refine ⟨rfl, ⟨_, c - 1, HB.out.set 0 _, by omega, ⟨hd.1, fun j hj => ?_⟩, fun b' f' e' => by cases e'; exact hbl⟩, t1⟩
    obtain ⟨b', f', e', h'⟩ := hd.2 j hj
    cases e'
    exact ⟨_, _, rfl, t1.cell h' (cell_lt h') (fun hh => hne hh.symm)⟩

theorem number_no {Bd : Nat} {w : World} {rb : Nat} {ws : List (List UInt8)} {e : Int} (h : Rd Bd w rb ws e) (he : e ≠ 0) :
    Calls Tryz.prog 105 #[.pointer (some ⟨rb, 0, none⟩)] w fun en w' => en = .returned (.int .i64 0) ∧ w' = w := by
  obtain ⟨a, c, hb, hc, hat, hf⟩ := h
  have c1 : w.cell? ⟨rb, 1, none⟩ = some (.int .i64 e) := hb.cell 1 (by simp)
  have h1 : (e != 0) = true := by simp [he]
  clear hb hat hf hc
  go_enter Tryz.func105, Tryz.ntmps105
  go_wp2_with fail
  go_ret
  exact ⟨rfl, rfl⟩
theorem number_yes {Bd : Nat} {w : World} {rb : Nat} {x : List UInt8} {r : List (List UInt8)} (h : Rd Bd w rb (x :: r) 0) (hl : r.length ≤ 1000000) (hx : x.length ≤ 100000) (hr : Rdy w) (hB : 7 ≤ Bd) :
    Calls Tryz.prog 105 #[.pointer (some ⟨rb, 0, none⟩)] w fun en w' => en = .returned (.int .i64 (numOf x).1) ∧ Rd Bd w' rb r (numOf x).2 ∧ Turns (fun k => k = rb) w w' := by
  have hrl := h.lt
  have HR : Hid (Rdy w) := hr
  have H : Hid (Rd Bd w rb (x :: r) 0) := h
  obtain ⟨a, c, hb, hc, hat, hf⟩ := h
  have c1 : w.cell? ⟨rb, 1, none⟩ = some (.int .i64 0) := hb.cell 1 (by simp)
  clear hb hat hf hc hr
  go_enter Tryz.func105, Tryz.ntmps105
  go_wp2_with fail
  refine (next_any H.out hl).mono ?_
  rintro en w1 ⟨rfl, R1, t1⟩
  go_wp2_with fail
  refine (number_any x hx w1 (HR.out.turns t1 (fun k hk => by omega))).mono ?_
  rintro en w2 ⟨rfl, t2⟩
  have R2 := R1.kept t2
  have HR2 : Hid (Rd Bd w2 rb r 0) := R2
  obtain ⟨a2, c2, hb2, hc2, hat2, hf2⟩ := R2
  have d1 : w2.cell? ⟨rb, 1, none⟩ = some (.int .i64 0) := hb2.cell 1 (by simp)
  have f1 := hb2.frozen 1
  have l2 := hb2.lt.2
  have HB : Hid (Box Bd w2 161 rb [.slice a2 r.length c2, .int .i64 0]) := hb2
  have HA : Hid (At w2 a2 r.length r) := hat2
  have HF : Hid (∀ b f, a2 = some ⟨b, f, none⟩ → b < Bd) := hf2
  clear hb2 hat2 hf2 R1
  go_wp2_with fail
  go_ret
  have t3 := turn_set w2 rb 1 (.int .i64 (numOf x).2)
  refine ⟨rfl, ⟨a2, c2, HB.out.set 1 _, hc2, ⟨HA.out.1, fun j hj => ?_⟩, HF.out⟩, (t1.trans (t2.turns.mono (fun _ _ h => h.elim))).trans t3⟩
  obtain ⟨b', f', e', h'⟩ := HA.out.2 j hj
  exact ⟨b', f', e', t3.cell h' (cell_lt h') (fun hh => by have := HF.out b' f' e'; simp at hh; omega)⟩

/-- A reader's answer: the number and the error. -/
def Ans (v : Int) (e : Int) (x : Int × Int) : Prop := e = x.2 ∧ (x.2 = 0 → v = x.1)
theorem wait_no {Bd : Nat} {w : World} {rb : Nat} {ws : List (List UInt8)} {e : Int} (h : Rd Bd w rb ws e) (he : e ≠ 0) :
    Calls Tryz.prog 106 #[.pointer (some ⟨rb, 0, none⟩)] w fun en w' => en = .returned (.int .i64 0) ∧ w' = w := by
  have H : Hid (Rd Bd w rb ws e) := h
  obtain ⟨a, c, hb, hc, hat, hf⟩ := h
  have c1 : w.cell? ⟨rb, 1, none⟩ = some (.int .i64 e) := hb.cell 1 (by simp)
  have h1 : (e == 0) = false := by simp [he]
  clear hb hat hf hc
  go_enter Tryz.func106, Tryz.ntmps106
  go_wp2_with fail
  refine (number_no H.out he).mono ?_
  rintro en w1 ⟨rfl, hw⟩
  subst w1
  go_wp2_with fail
  go_ret
  exact ⟨rfl, rfl⟩
theorem wait_yes {Bd : Nat} {w : World} {rb : Nat} {x : List UInt8} {r : List (List UInt8)} (h : Rd Bd w rb (x :: r) 0) (hl : r.length ≤ 1000000) (hx : x.length ≤ 100000) (hr : Rdy w) (hB : 7 ≤ Bd) :
    Calls Tryz.prog 106 #[.pointer (some ⟨rb, 0, none⟩)] w fun en w' => ∃ n e, en = .returned (.int .i64 n) ∧ Ans n e (waitOf x) ∧ Rd Bd w' rb r e ∧ Turns (fun k => k = rb) w w' := by
  have hrl := h.lt
  have H : Hid (Rd Bd w rb (x :: r) 0) := h
  obtain ⟨a, c, hb, hc, hat, hf⟩ := h
  obtain ⟨b, f, rfl, hcx, hm⟩ := hat.head
  have c0 : w.cell? ⟨rb, 0, none⟩ = some (.slice (some ⟨b, f, none⟩) (r.length + 1) c) := hb.cell 0 (by simp)
  have c1 : w.cell? ⟨rb, 1, none⟩ = some (.int .i64 0) := hb.cell 1 (by simp)
  clear hb hat hf hc hm
  by_cases hd : x = [45]
  · have e1 : ((B x).toList == [45]) = true := by rw [B_is, hd]; rfl
    have HW : Hid (waitOf x = (-1, 0)) := by show _ = _; rw [hd]; rfl
    clear hd
    go_enter Tryz.func106, Tryz.ntmps106
    go_wp2_with fail
    refine (next_any H.out hl).mono ?_
    rintro en w1 ⟨rfl, R1, t1⟩
    go_wp2_with fail
    go_ret
    exact ⟨-1, 0, rfl, ⟨by rw [HW.out], fun _ => by rw [HW.out]⟩, R1, t1⟩
  · have e1 : ((B x).toList == [45]) = false := by rw [B_is]; simpa using hd
    by_cases hn : (numOf x).1 < 0
    · have HW : Hid (waitOf x = (0, 2)) := by
        show _ = _
        unfold waitOf
        rcases numOf_cases x with ⟨_, e⟩ | ⟨_, e | ⟨m, e, _⟩⟩
        · rw [e] at hn; simp at hn
        · rw [e] at hn; simp at hn
        · rw [e] at hn ⊢
          simp only at hn
          rw [if_neg hd]
          simp [hn]
      have HN : Hid ((numOf x).2 = (numOf x).2) := by show _ = _; rfl
      obtain ⟨q, hq⟩ : ∃ q, (numOf x).1 = q := ⟨_, rfl⟩
      rw [hq] at hn
      have hnu := number_yes H.out hl hx hr hB
      rw [hq] at hnu
      clear hd hq HN
      go_enter Tryz.func106, Tryz.ntmps106
      go_wp2_with fail
      refine hnu.mono ?_
      rintro en w1 ⟨rfl, R1, t1⟩
      have HR1 : Hid (Rd Bd w1 rb r (numOf x).2) := R1
      obtain ⟨a2, c2, hb2, hc2, hat2, hf2⟩ := R1
      have d1 : w1.cell? ⟨rb, 1, none⟩ = some (.int .i64 (numOf x).2) := hb2.cell 1 (by simp)
      have f1 := hb2.frozen 1
      have l2 := hb2.lt.2
      have HB : Hid (Box Bd w1 161 rb [.slice a2 r.length c2, .int .i64 (numOf x).2]) := hb2
      have HA : Hid (At w1 a2 r.length r) := hat2
      have HF : Hid (∀ b f, a2 = some ⟨b, f, none⟩ → b < Bd) := hf2
      clear hb2 hat2 hf2
      go_wp2_with fail
      go_ret
      have t3 := turn_set w1 rb 1 (.int .i64 2)
      refine ⟨q, 2, rfl, ⟨by rw [HW.out], fun h => by rw [HW.out] at h; cases h⟩, ⟨a2, c2, HB.out.set 1 _, hc2, ⟨HA.out.1, fun j hj => ?_⟩, HF.out⟩, t1.trans t3⟩
      obtain ⟨b', f', e', h'⟩ := HA.out.2 j hj
      exact ⟨b', f', e', t3.cell h' (cell_lt h') (fun hh => by have := HF.out b' f' e'; simp at hh; omega)⟩
    · have HW : Hid (waitOf x = numOf x) := by
        show _ = _
        unfold waitOf
        rw [if_neg hd]
        by_cases h2 : (numOf x).2 = 0
        · rw [if_pos h2, if_neg hn]
        · rw [if_neg h2]
      obtain ⟨q, hq⟩ : ∃ q, (numOf x).1 = q := ⟨_, rfl⟩
      have HQ : Hid ((numOf x).1 = q) := hq
      rw [hq] at hn
      have hnu := number_yes H.out hl hx hr hB
      rw [hq] at hnu
      clear hd hq
      go_enter Tryz.func106, Tryz.ntmps106
      go_wp2_with fail
      refine hnu.mono ?_
      rintro en w1 ⟨rfl, R1, t1⟩
      go_wp2_with fail
      go_ret
      exact ⟨q, (numOf x).2, rfl, ⟨by rw [HW.out], fun _ => by rw [HW.out, HQ.out]⟩, R1, t1⟩

theorem chanOf_any (n : Int) (w : World) : Calls Tryz.prog 123 #[.int .i64 n] w fun e w' => e = .returned (.int .i64 (chan8 n)) ∧ w' = w := by
  go_enter Tryz.func123, Tryz.ntmps123
  go_wp2_with fail
  all_goals (go_ret; refine ⟨ret_int ?_, rfl⟩; unfold chan8; first | (rw [if_pos (by omega)]) | (rw [if_neg (by omega)]))
end Go.Proofs.YtolljdomnohmdabGreatDoor
namespace Go.Proofs.YtolljdomnohmdabGreatDoor
open Go.RowKit

theorem casesE_bad {seen r : List CaseD} {c : CaseD} (h : badC c = true) : casesE seen (c :: r) = 1 := by rw [casesE, if_pos h]
theorem casesE_twice {seen r : List CaseD} {c : CaseD} (h : badC c = false) (h2 : hasC seen c.chan = true) : casesE seen (c :: r) = 6 := by rw [casesE, if_neg (by rw [h]; decide), if_pos h2]
theorem casesE_next {seen r : List CaseD} {c : CaseD} (h : badC c = false) (h2 : hasC seen c.chan = false) : casesE seen (c :: r) = casesE (seen ++ [c]) r := by rw [casesE, if_neg (by rw [h]; decide), if_neg (by rw [h2]; decide)]
theorem hasC_snoc (l : List CaseD) (d : CaseD) (ch : Int) : hasC (l ++ [d]) ch = (hasC l ch || d.chan == ch) := by simp [hasC]
theorem hasC_mem {l : List CaseD} {j : Nat} {d : CaseD} {ch : Int} {k : Nat} (h : l[j]? = some d) (hj : j < k) (he : d.chan = ch) : hasC (l.take k) ch = true := by
  unfold hasC
  rw [List.any_eq_true]
  refine ⟨d, ?_, by simp [he]⟩
  exact List.mem_of_getElem? (i := j) (by rw [List.getElem?_take, if_pos hj, h])

set_option maxHeartbeats 2000000 in
theorem checkCases_any (a : Option Addr) (m c : Nat) (l : List CaseD) (w : World) (hA : AtC w a m l) (hm : m ≤ 1000000) (hcap : m ≤ c) :
    Calls Tryz.prog 109 #[.slice a m c] w fun e w' => e = .returned (.int .i64 (casesE [] l)) ∧ Kept w w' := by
  have HA : Hid (AtC w a m l) := hA
  have HL : Hid (l.length = m) := hA.1
  clear hA
  go_enter Tryz.func109, Tryz.ntmps109
  go_wp2_with fail
  go_step3
  go_wp2_with fail
  go_step3
  go_wp2_with fail
  go_loopg [3, 10] m (fun gk e i wr => ∃ k : Nat, e = .int .i64 0 ∧ i = .int .i64 k ∧ k + gk = m ∧ Hid (casesE (l.take k) (l.drop k) = casesE [] l) ∧ Kept w wr)
  case atStart => exact ⟨0, rfl, rfl, by omega, rfl, Kept.refl _⟩
  case round =>
    obtain ⟨k, rfl, rfl, hk, HI, T⟩ := hrel
    by_cases hkm : k < m
    · obtain ⟨b, f, sd, ch, v, rfl, g0, g1, g2, hb, e1, e2, e3⟩ := (HA.out.kept T).get k hkm
      have b1 : (k : Int) < (m : Int) := by omega
      have b2 : (0 : Int) ≤ (k : Int) := by omega
      have b3 : (k : Int) ≤ (c : Int) := by omega
      have HE : Hid (casesE (l.take k) (⟨sd, ch, v⟩ :: l.drop (k + 1)) = casesE [] l) := by show _ = _; rw [← e3]; exact HI.out
      have HT : Hid (l.take (k + 1) = l.take k ++ [⟨sd, ch, v⟩]) := e2
      clear e1 e2 e3 HI
      obtain ⟨g1', rfl⟩ : ∃ g, gk = g + 1 := ⟨gk - 1, by omega⟩
      by_cases hbad : badC ⟨sd, ch, v⟩ = true
      · have HR : Hid (casesE [] l = 1) := by show _ = _; rw [← HE.out]; exact casesE_bad hbad
        simp only [badC, Bool.or_eq_true, decide_eq_true_eq, Bool.and_eq_true, Bool.not_eq_true'] at hbad
        have hway : ch < 0 ∨ (0 ≤ ch ∧ 8 ≤ ch) ∨ (0 ≤ ch ∧ ch < 8 ∧ sd = false ∧ (v == 0) = false) := by
          rcases hbad with (h | h) | ⟨h1, h2⟩
          · exact .inl h
          · exact .inr (.inl ⟨by omega, h⟩)
          · by_cases h3 : ch < 0
            · exact .inl h3
            · by_cases h4 : 8 ≤ ch
              · exact .inr (.inl ⟨by omega, h4⟩)
              · exact .inr (.inr ⟨by omega, by omega, h2, h1⟩)
        clear hbad
        rcases hway with h | ⟨h, h'⟩ | ⟨h, h', rfl, h3⟩
        · go_wp2_with fail
          try rw [Exit.noGoto_ret]
          go_ret
          rw [HR.out]
          exact ⟨rfl, T.alloc _⟩
        · go_wp2_with fail
          try rw [Exit.noGoto_ret]
          go_ret
          rw [HR.out]
          exact ⟨rfl, T.alloc _⟩
        · have h4 : (v != 0) = true := by simp [bne, h3]
          go_wp2_with fail
          try rw [Exit.noGoto_ret]
          go_ret
          rw [HR.out]
          exact ⟨rfl, T.alloc _⟩
      · have HB : Hid (badC ⟨sd, ch, v⟩ = false) := by show _ = _; simpa using hbad
        clear hbad
        have hway : v = 0 ∨ ((v != 0) = true ∧ sd = true) := by
          by_cases hv : v = 0
          · exact .inl hv
          · right
            refine ⟨by simp [hv], ?_⟩
            have := HB.out
            simp [badC, hv] at this
            exact this.2
        have hch : 0 ≤ ch ∧ ch < 8 := by have := badC_no HB.out; exact ⟨this.1, this.2.1⟩
        obtain ⟨hc1, hc2⟩ := hch
        rcases hway with rfl | ⟨hv, rfl⟩
        · have T1 := T.alloc (.cells #[.bool sd, .int .i64 ch, .int .i64 0] 57)
          have GC : Hid ((wr.alloc (.cells #[.bool sd, .int .i64 ch, .int .i64 0] 57)).cell? ⟨wr.heap.size, 1, none⟩ = some (.int .i64 ch)) := by show _ = _; rw [World.cell?_alloc_at _ _ _ _ rfl]; rfl
          go_wp2_with fail
          go_loopg [3, 37] k (fun g2 e i wi => ∃ j : Nat, e = .int .i64 0 ∧ i = .int .i64 j ∧ j + g2 = k ∧ Hid (hasC (l.take j) ch = false) ∧ Kept (wr.alloc (.cells #[.bool sd, .int .i64 ch, .int .i64 0] 57)) wi)
          case atStart => exact ⟨0, rfl, rfl, by omega, rfl, Kept.refl _⟩
          case round =>
            obtain ⟨j, rfl, rfl, hj, HN, Ti⟩ := hrel
            have T2 := T1.trans Ti
            have gc := Ti.cell GC.out
            have gl := cell_lt gc
            by_cases hjk : j < k
            · obtain ⟨b', f', sd', ch', v', hab, q0, q1, q2, hb', e1, e2, e3⟩ := (HA.out.kept T2).get j (by omega)
              cases hab
              have d1 : (j : Int) < (k : Int) := by omega
              have d2 : (0 : Int) ≤ (j : Int) := by omega
              by_cases hcc : ch' = ch
              · have HR : Hid (casesE [] l = 6) := by
                  show _ = _
                  rw [← HE.out]
                  exact casesE_twice HB.out (hasC_mem e1 hjk hcc)
                have t : (ch' == ch) = true := by simp [hcc]
                clear e1 e2 e3 hcc
                go_wp2_with fail
                try rw [Exit.noGoto_ret]
                go_ret
                rw [HR.out]
                exact ⟨rfl, T2.alloc _⟩
              · have HN2 : Hid (hasC (l.take (j + 1)) ch = false) := by
                  show _ = _
                  rw [e2, hasC_snoc, HN.out]
                  simpa using hcc
                have t : (ch' == ch) = false := by simp [hcc]
                clear e1 e2 e3 hcc
                obtain ⟨g3, rfl⟩ : ∃ g, gk = g + 1 := ⟨gk - 1, by omega⟩
                go_wp2_with fail
                go_roundg g3
                case rel => exact ⟨j + 1, rfl, by go_num, by omega, HN2, Ti.alloc _⟩
                case measure => omega
            · have d1 : ¬ (j : Int) < (k : Int) := by omega
              obtain rfl : j = k := by omega
              have HX : Hid (casesE (l.take (j + 1)) (l.drop (j + 1)) = casesE [] l) := by
                show _ = _
                rw [← HE.out, HT.out]
                exact (casesE_next HB.out HN.out).symm
              go_wp2_with fail
              go_roundg g1'
              case rel => exact ⟨j + 1, rfl, by go_num, by omega, HX, T2⟩
              case measure => omega
        · have T1 := T.alloc (.cells #[.bool true, .int .i64 ch, .int .i64 v] 57)
          have GC : Hid ((wr.alloc (.cells #[.bool true, .int .i64 ch, .int .i64 v] 57)).cell? ⟨wr.heap.size, 1, none⟩ = some (.int .i64 ch)) := by show _ = _; rw [World.cell?_alloc_at _ _ _ _ rfl]; rfl
          go_wp2_with fail
          go_loopg [3, 37] k (fun g2 e i wi => ∃ j : Nat, e = .int .i64 0 ∧ i = .int .i64 j ∧ j + g2 = k ∧ Hid (hasC (l.take j) ch = false) ∧ Kept (wr.alloc (.cells #[.bool true, .int .i64 ch, .int .i64 v] 57)) wi)
          case atStart => exact ⟨0, rfl, rfl, by omega, rfl, Kept.refl _⟩
          case round =>
            obtain ⟨j, rfl, rfl, hj, HN, Ti⟩ := hrel
            have T2 := T1.trans Ti
            have gc := Ti.cell GC.out
            have gl := cell_lt gc
            by_cases hjk : j < k
            · obtain ⟨b', f', sd', ch', v', hab, q0, q1, q2, hb', e1, e2, e3⟩ := (HA.out.kept T2).get j (by omega)
              cases hab
              have d1 : (j : Int) < (k : Int) := by omega
              have d2 : (0 : Int) ≤ (j : Int) := by omega
              by_cases hcc : ch' = ch
              · have HR : Hid (casesE [] l = 6) := by
                  show _ = _
                  rw [← HE.out]
                  exact casesE_twice HB.out (hasC_mem e1 hjk hcc)
                have t : (ch' == ch) = true := by simp [hcc]
                clear e1 e2 e3 hcc
                go_wp2_with fail
                try rw [Exit.noGoto_ret]
                go_ret
                rw [HR.out]
                exact ⟨rfl, T2.alloc _⟩
              · have HN2 : Hid (hasC (l.take (j + 1)) ch = false) := by
                  show _ = _
                  rw [e2, hasC_snoc, HN.out]
                  simpa using hcc
                have t : (ch' == ch) = false := by simp [hcc]
                clear e1 e2 e3 hcc
                obtain ⟨g3, rfl⟩ : ∃ g, gk = g + 1 := ⟨gk - 1, by omega⟩
                go_wp2_with fail
                go_roundg g3
                case rel => exact ⟨j + 1, rfl, by go_num, by omega, HN2, Ti.alloc _⟩
                case measure => omega
            · have d1 : ¬ (j : Int) < (k : Int) := by omega
              obtain rfl : j = k := by omega
              have HX : Hid (casesE (l.take (j + 1)) (l.drop (j + 1)) = casesE [] l) := by
                show _ = _
                rw [← HE.out, HT.out]
                exact (casesE_next HB.out HN.out).symm
              go_wp2_with fail
              go_roundg g1'
              case rel => exact ⟨j + 1, rfl, by go_num, by omega, HX, T2⟩
              case measure => omega
    · have b1 : ¬ (k : Int) < (m : Int) := by omega
      have HR : Hid (casesE [] l = 0) := by
        show _ = _
        rw [← HI.out, List.drop_of_length_le (by rw [HL.out]; omega)]; rfl
      go_wp2_with fail
      go_ret
      rw [HR.out]
      exact ⟨rfl, T⟩
end Go.Proofs.YtolljdomnohmdabGreatDoor
