/- HeapDrains answers true at every row of prios and seqs. -/
import Derived.Test.YthlnbnklhajilaaRooms
namespace Go.Proofs.Ythlnbnklhajilaa
open Go.RowKit Hp

theorem cell_lt {w : World} {p : Addr} {v : Value} (h : w.cell? p = some v) : p.block < w.heap.size := by
  by_cases hlt : p.block < w.heap.size
  · exact hlt
  · have : w.heap[p.block]? = none := Array.getElem?_eq_none (by omega)
    simp [World.cell?, this] at h

theorem HP.drew {B : Nat} {w : World} {hb : Nat} {rv : Value} {ab ac most : Nat} {row : List Ent} (h : HP B w hb rv ab ac most row) : HP B w.drew hb rv ab ac most row := ⟨h.own, h.ats, h.hd, h.d1, h.d2, h.d3, h.good, h.top, h.len⟩

theorem val_pred (k : Nat) (h : (0 : Int) < (k : Int)) : Value.int .i64 ((k : Int) - 1) = Value.int .i64 ((k - 1 : Nat) : Int) := by
  congr 1; omega

/-- The j-th entry of two rows. -/
def entAt (P S : List Int) (j : Nat) : Ent := ⟨(j : Int), P.getD j 0, S.getD j 0⟩

set_option maxHeartbeats 1000000 in
set_option maxRecDepth 100000 in
theorem drains_skip (a0 a1 : Option Addr) (n n1 c0 c1 : Nat) (w : World) (h : 100 < (n : Int) ∨ (n1 : Int) < (n : Int)) :
    Calls Try.prog 4 #[.slice a0 n c0, .slice a1 n1 c1] w fun e w' => e = .returned (.bool true) ∧ Below w.heap.size w w' := by
  by_cases h1 : 100 < (n : Int)
  · go_enter Try.func4, Try.ntmps4
    go_wp2_with fail
    refine (known_true w).mono ?_
    rintro e w1 ⟨rfl, T1⟩
    go_wp2_with fail
    go_ret
    exact ⟨rfl, T1.below (fun _ h => h.elim) (Nat.le_refl _)⟩
  · have h2 : (n1 : Int) < (n : Int) := by omega
    have h3 : decide (100 < (n : Int)) = false := decide_eq_false h1
    clear h h1
    go_enter Try.func4, Try.ntmps4
    go_wp2_with fail
    refine (known_true w).mono ?_
    rintro e w1 ⟨rfl, T1⟩
    go_wp2_with fail
    go_ret
    exact ⟨rfl, T1.below (fun _ h => h.elim) (Nat.le_refl _)⟩

set_option maxHeartbeats 1000000 in
set_option maxRecDepth 100000 in
theorem drains_zero (a0 a1 : Option Addr) (n1 c0 c1 : Nat) (w : World) :
    Calls Try.prog 4 #[.slice a0 0 c0, .slice a1 n1 c1] w fun e w' => e = .returned (.bool true) ∧ Below w.heap.size w w' := by
  have g2 : decide ((n1 : Int) < 0) = false := decide_eq_false (by omega)
  go_enter Try.func4, Try.ntmps4
  go_wp2_with fail
  refine (known_true w).mono ?_
  rintro e w1 ⟨rfl, T1⟩
  go_wp2_with fail
  refine (new_good w.heap.size 100 w1 (by omega) (by omega) T1.size).mono ?_
  rintro e w2 ⟨hb, rfl, ab, h2, t2, _, _⟩
  have T2 := T1.trans t2
  go_wp2_with fail
  go_loopw [7] (fun i wr => i = .int .i64 0 ∧ wr = w2) (fun _ _ => 0)
  case atStart => exact ⟨rfl, rfl⟩
  case round =>
    obtain ⟨rfl, rfl⟩ := hrel
    go_wp2_with fail
    go_loopw [8, 9] (fun i j wr' => i = .int .i64 (-1) ∧ j = .int .i64 0 ∧ wr' = wr) (fun _ _ _ => 0)
    case atStart => exact ⟨rfl, rfl, rfl⟩
    case round =>
      obtain ⟨rfl, rfl, rfl⟩ := hrel
      go_wp2_with fail
      refine (len_hp h2).mono ?_
      rintro e w3 ⟨rfl, hw⟩
      subst w3
      go_wp2_with fail
      refine (order_any h2 T2.size).mono ?_
      rintro e w3 ⟨og, rfl, _, _, t3⟩
      have T3 := T2.trans t3
      go_wp2_with fail
      go_ret
      exact ⟨rfl, T3.below (fun _ h => h.elim) (Nat.le_refl _)⟩

set_option maxHeartbeats 4000000 in
set_option maxRecDepth 100000 in
theorem drains_some (b0 f0 b1 f1 n n1 c0 c1 : Nat) (P S : List Int) (w : World) (hn0 : 0 < n) (hn : n ≤ 100) (hn1 : n ≤ n1)
    (hP : ∀ j, j < n → w.cell? ⟨b0, f0 + j, none⟩ = some (.int .i64 (P.getD j 0))) (hS : ∀ j, j < n → w.cell? ⟨b1, f1 + j, none⟩ = some (.int .i64 (S.getD j 0))) :
    Calls Try.prog 4 #[.slice (some ⟨b0, f0, none⟩) n c0, .slice (some ⟨b1, f1, none⟩) n1 c1] w fun e w' => e = .returned (.bool true) ∧ Below w.heap.size w w' := by
  have l0 := cell_lt (hP 0 hn0)
  have l1 := cell_lt (hS 0 hn0)
  have HPP : Hid (∀ j, j < n → w.cell? ⟨b0, f0 + j, none⟩ = some (.int .i64 (P.getD j 0))) := hP
  have HSS : Hid (∀ j, j < n → w.cell? ⟨b1, f1 + j, none⟩ = some (.int .i64 (S.getD j 0))) := hS
  have L0 : Hid (b0 < w.heap.size) := l0
  have L1 : Hid (b1 < w.heap.size) := l1
  clear hP hS l0 l1
  have g1 : decide (100 < (n : Int)) = false := decide_eq_false (by omega)
  have g2 : decide ((n1 : Int) < (n : Int)) = false := decide_eq_false (by omega)
  go_enter Try.func4, Try.ntmps4
  go_wp2_with fail
  refine (known_true w).mono ?_
  rintro e w1 ⟨rfl, T1⟩
  go_wp2_with fail
  refine (new_good w.heap.size 100 w1 (by omega) (by omega) T1.size).mono ?_
  rintro e w2 ⟨hb, rfl, ab, h2, t2, _, _⟩
  have T2 := T1.trans t2
  go_wp2_with fail
  go_loopw [7] (fun i wr => ∃ (c : Nat) (rk : List Ent) (rv : Value), i = .int .i64 c ∧ c ≤ n ∧ HP w.heap.size wr hb rv ab 100 100 rk ∧ Ord rk ∧ Hid (rk.Perm ((List.range c).map (entAt P S))) ∧ Turns (fun _ => False) w wr)
    (fun i _ => n - (intOf i).toNat)
  case atStart => exact ⟨0, [], _, rfl, by omega, h2, (fun i _ h => by cases h), List.Perm.refl _, T2⟩
  case round =>
    obtain ⟨c, rk, rv, rfl, hc, hh, ho, HM, T⟩ := hrel
    clear h2 T1 t2 T2
    by_cases hcn : c < n
    · obtain ⟨x, hx⟩ : ∃ x, P.getD c 0 = x := ⟨_, rfl⟩
      obtain ⟨y, hy⟩ : ∃ y, S.getD c 0 = y := ⟨_, rfl⟩
      have gx := T.cell (HPP.out c hcn) L0.out (fun h => h)
      have gy := T.cell (HSS.out c hcn) L1.out (fun h => h)
      rw [hx] at gx
      rw [hy] at gy
      have HE : Hid (entAt P S c = ⟨(c : Int), x, y⟩) := by show _ = _; unfold entAt; rw [hx, hy]
      have HX : Hid (P.getD c 0 = x) := hx
      have HY : Hid (S.getD c 0 = y) := hy
      clear hx hy
      have hp0 : place rk (c : Int).toNat = 0 := by
        rw [Int.toNat_natCast]
        apply place_zero
        intro z hz e
        have hz' := HM.out.mem_iff.1 hz
        simp only [List.mem_map, List.mem_range] at hz'
        obtain ⟨j, hj, rfl⟩ := hz'
        simp only [entAt] at e
        omega
      have HP0 : Hid (place rk (c : Int).toNat = 0) := hp0
      have HKN : Hid (knB 100 (c : Int) = true) := by show _ = _; simp [knB]; omega
      clear hp0
      have b1' : (c : Int) < (n : Int) := by omega
      have b2' : (c : Int) < (n1 : Int) := by omega
      have b3' : (0 : Int) ≤ (c : Int) := by omega
      go_wp2_with fail
      go_region_held3 (fun w' => w'.cell? ⟨b0, f0 + c, none⟩ = some (.int .i64 x) ∧ w'.cell? ⟨b1, f1 + c, none⟩ = some (.int .i64 y)) (go_keep)
        (first | (go_at_call 11; refine (put_ok (c : Int) x y hh.drew HKN.out HP0.out T.size).mono ?_; rintro e w3 ⟨rfl, rv3, h3, t3, h3'⟩; have T3 := hh.drew.frame (Nat.le_refl _) T.drew t3; have z0 := T3.cell (HPP.out c hcn) L0.out (fun h => h); rw [HX.out] at z0; have z1 := T3.cell (HSS.out c hcn) L1.out (fun h => h); rw [HY.out] at z1))
      go_wp2_with fail
      go_roundw
      case rel =>
        refine ⟨c + 1, putR rk ⟨(c : Int), x, y⟩, rv3, by go_num, by omega, h3, putR_ord ho _, ?_, T3⟩
        show List.Perm _ _
        rw [List.range_succ, List.map_append, List.map_cons, List.map_nil, HE.out]
        exact (putR_perm rk _).trans (List.Perm.append_right _ HM.out)
      case measure => simp [intOf]; omega
    · have hcc : c = n := by omega
      subst hcc
      clear hcn
      have hrl : rk.length = c := by have := HM.out.length_eq; simpa using this
      have HRL : Hid (rk.length = c) := hrl
      have HMM : Hid (∀ x, x ∈ rk → ∃ j, j < c ∧ x = entAt P S j) := by
        intro x hx
        have := HM.out.mem_iff.1 hx
        simp only [List.mem_map, List.mem_range] at this
        obtain ⟨j, hj, rfl⟩ := this
        exact ⟨j, hj, rfl⟩
      clear hrl
      go_wp2_with fail
      go_loopw [8, 9] (fun l m wr => ∃ (k : Nat) (rk : List Ent) (rv : Value), m = .int .i64 k ∧ Hid (rk.length = k) ∧ k ≤ 100 ∧ HP w.heap.size wr hb rv ab 100 100 rk ∧ Ord rk ∧ Hid (∀ x, x ∈ rk → ∃ j, j < c ∧ x = entAt P S j) ∧
          (l = .int .i64 (-1) ∨ ∃ j : Nat, j < c ∧ l = .int .i64 j ∧ Hid (∀ x, x ∈ rk → ahd x (entAt P S j) = false)) ∧ Turns (fun _ => False) w wr)
        (fun _ m _ => (intOf m).toNat)
      case atStart => exact ⟨c, rk, rv, rfl, HRL, hn, hh, ho, HMM, .inl rfl, T⟩
      case round =>
        clear hh ho HM T HRL HMM
        obtain ⟨k, rk, rv, rfl, HRL, hk100, hh, ho, HMM, hlast, T⟩ := hrel
        by_cases hk : k = 0
        · subst hk
          clear hlast
          go_wp2_with fail
          refine (len_hp hh).mono ?_
          rintro e w3 ⟨rfl, hw⟩
          subst w3
          rw [HRL.out]
          go_wp2_with fail
          refine (order_any hh T.size).mono ?_
          rintro e w3 ⟨og, rfl, _, _, t3⟩
          rw [HRL.out]
          have T3 := T.trans t3
          go_wp2_with fail
          go_ret
          exact ⟨rfl, T3.below (fun _ h => h.elim) (Nat.le_refl _)⟩
        · have hpos : 0 < rk.length := by rw [HRL.out]; omega
          obtain ⟨j0, hj0, hj0e⟩ := HMM.out (at' rk 0) (at_mem hpos)
          have hid : (at' rk 0).id = (j0 : Int) := by rw [hj0e]; rfl
          have HID : Hid ((at' rk 0).id = (j0 : Int)) := hid
          have HE0 : Hid (at' rk 0 = entAt P S j0) := hj0e
          have hkp : (0 : Int) < (k : Int) := by omega
          have e1 : decide ((j0 : Int) < 0) = false := decide_eq_false (by omega)
          have e2 : decide ((c : Int) ≤ (j0 : Int)) = false := decide_eq_false (by omega)
          have e3 : ((k : Int) != (k : Int)) = false := by simp
          have hnext : Hid (∀ x, x ∈ remR rk 0 → ahd x (entAt P S j0) = false) := by
            intro x hx
            have hx' : x ∈ rk := (remR_perm rk 0 hpos).mem_iff.2 (List.mem_cons_of_mem _ hx)
            obtain ⟨i, hi, rfl⟩ := mem_at hx'
            rw [← hj0e]
            exact ord_head rk ho i hi
          have hmm2 : Hid (∀ x, x ∈ remR rk 0 → ∃ j, j < c ∧ x = entAt P S j) := by
            intro x hx
            exact HMM.out x ((remR_perm rk 0 hpos).mem_iff.2 (List.mem_cons_of_mem _ hx))
          have hrl2 : Hid ((remR rk 0).length = k - 1) := by show _ = _; rw [remR_len, HRL.out]
          clear hid hj0e
          rcases hlast with rfl | ⟨j, hj, rfl, HJ⟩
          · go_wp2_with fail
            refine (top_some hh hpos).mono ?_
            rintro e w3 ⟨rfl, hw⟩
            subst w3
            rw [HID.out]
            go_wp2_with fail
            refine (len_hp hh).mono ?_
            rintro e w3 ⟨rfl, hw⟩
            subst w3
            rw [HRL.out]
            go_wp2_with fail
            rw [← HID.out]
            refine (remove_head hh hpos).mono ?_
            rw [HID.out]
            rintro e w3 ⟨rfl, rv3, h3, t3, _⟩
            have T3 := hh.frame (Nat.le_refl _) T t3
            go_wp2_with fail
            go_roundw
            case rel => exact ⟨k - 1, remR rk 0, rv3, val_pred k hkp, hrl2, by omega, h3, remR_ord ho 0 hpos, hmm2, .inr ⟨j0, hj0, rfl, hnext⟩, T3⟩
            case measure => simp [intOf]; omega
          · obtain ⟨p, hp⟩ : ∃ x, P.getD j 0 = x := ⟨_, rfl⟩
            obtain ⟨q, hq⟩ : ∃ x, P.getD j0 0 = x := ⟨_, rfl⟩
            obtain ⟨s, hs⟩ : ∃ x, S.getD j 0 = x := ⟨_, rfl⟩
            obtain ⟨t, ht⟩ : ∃ x, S.getD j0 0 = x := ⟨_, rfl⟩
            have hord := HJ.out (at' rk 0) (at_mem hpos)
            rw [HE0.out, ahd_not] at hord
            simp only [entAt, hp, hq, hs, ht] at hord
            have HORD : Hid (¬ (p < q ∨ (q = p ∧ (t < s ∨ (t = s ∧ (j0 : Int) < (j : Int)))))) := hord
            have HP1 : Hid (P.getD j 0 = p) := hp
            have HP2 : Hid (P.getD j0 0 = q) := hq
            have HS1 : Hid (S.getD j 0 = s) := hs
            have HS2 : Hid (S.getD j0 0 = t) := ht
            clear hp hq hs ht hord HJ
            have e4 : decide ((0 : Int) ≤ (j : Int)) = true := decide_eq_true (by omega)
            have m1 : (j : Int) < (c : Int) := by omega
            have m2 : (j0 : Int) < (c : Int) := by omega
            have m3 : (j : Int) < (n1 : Int) := by omega
            have m4 : (j0 : Int) < (n1 : Int) := by omega
            have m5 : (0 : Int) ≤ (j : Int) := by omega
            have m6 : (0 : Int) ≤ (j0 : Int) := by omega
            go_wp2_with fail
            refine (top_some hh hpos).mono ?_
            rintro e w3 ⟨rfl, hw⟩
            subst w3
            rw [HID.out]
            go_wp2_with fail
            refine (len_hp hh).mono ?_
            rintro e w3 ⟨rfl, hw⟩
            subst w3
            rw [HRL.out]
            go_wp2_with fail
            rw [← HID.out]
            refine (remove_head hh hpos).mono ?_
            rw [HID.out]
            rintro e w3 ⟨rfl, rv3, h3, t3, _⟩
            have T3 := hh.frame (Nat.le_refl _) T t3
            have z1 := T3.cell (HPP.out j hj) L0.out (fun h => h)
            have z2 := T3.cell (HPP.out j0 hj0) L0.out (fun h => h)
            have z3 := T3.cell (HSS.out j hj) L1.out (fun h => h)
            have z4 := T3.cell (HSS.out j0 hj0) L1.out (fun h => h)
            rw [HP1.out] at z1
            rw [HP2.out] at z2
            rw [HS1.out] at z3
            rw [HS2.out] at z4
            have hd := HORD.out
            have q1 : decide (p < q) = false := decide_eq_false (by omega)
            by_cases hpq : p = q
            · have q2 : (p == q) = true := by simp [hpq]
              have q3 : decide (t < s) = false := decide_eq_false (by omega)
              by_cases hst : s = t
              · have q4 : (s == t) = true := by simp [hst]
                have q5 : decide ((j0 : Int) < (j : Int)) = false := decide_eq_false (by omega)
                have q6 : (j : Int) ≤ (j0 : Int) := by omega
                clear hst hpq hd
                go_wp2_with fail
                go_quiet (fail)
                go_wp2_with fail
                go_quiet (fail)
                go_wp2_with fail
                go_roundw
                case rel => exact ⟨k - 1, remR rk 0, rv3, val_pred k hkp, hrl2, by omega, h3.drewN _, remR_ord ho 0 hpos, hmm2, .inr ⟨j0, hj0, rfl, hnext⟩, T3.drewN _⟩
                case measure => simp [intOf]; omega
              · have q4 : (s == t) = false := by simp [hst]
                clear hst hpq hd
                cases q5 : decide ((j0 : Int) < (j : Int))
                all_goals
                  go_wp2_with fail
                  go_quiet (fail)
                  go_wp2_with fail
                  go_quiet (fail)
                  go_wp2_with fail
                  go_roundw
                  case rel => exact ⟨k - 1, remR rk 0, rv3, val_pred k hkp, hrl2, by omega, h3.drewN _, remR_ord ho 0 hpos, hmm2, .inr ⟨j0, hj0, rfl, hnext⟩, T3.drewN _⟩
                  case measure => simp [intOf]; omega
            · have q2 : (p == q) = false := by simp [hpq]
              clear hpq hd
              go_wp2_with fail
              go_quiet (fail)
              go_wp2_with fail
              go_quiet (fail)
              go_wp2_with fail
              go_roundw
              case rel => exact ⟨k - 1, remR rk 0, rv3, val_pred k hkp, hrl2, by omega, h3.drewN _, remR_ord ho 0 hpos, hmm2, .inr ⟨j0, hj0, rfl, hnext⟩, T3.drewN _⟩
              case measure => simp [intOf]; omega
end Go.Proofs.Ythlnbnklhajilaa
