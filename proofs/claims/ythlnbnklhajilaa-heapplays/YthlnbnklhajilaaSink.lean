/- firstOf, sink and settle: an entry goes down while one of the two below goes ahead of it; by their contracts. -/
import Derived.Test.YthlnbnklhajilaaRise
namespace Go.Proofs.Ythlnbnklhajilaa
open Go.RowKit Hp

namespace Hp
/-- Behind j looks: the place of the one that goes first, of that at p and j of the two below it. -/
def firstTo (row : List Ent) (p : Nat) : Nat → Nat
  | 0 => p
  | j + 1 => if 2 * p + 1 + j < row.length ∧ ahd (at' row (2 * p + 1 + j)) (at' row (firstTo row p j)) = true then 2 * p + 1 + j else firstTo row p j

def sink : Nat → List Ent → Nat → List Ent
  | 0, row, _ => row
  | f + 1, row, p => if firstTo row p 2 = p then row else sink f (swp row p (firstTo row p 2)) (firstTo row p 2)

theorem firstTo_lt (row : List Ent) (p : Nat) (hp : p < row.length) : ∀ j, firstTo row p j < row.length
  | 0 => hp
  | j + 1 => by
    unfold firstTo
    split
    · rename_i h; exact h.1
    · exact firstTo_lt row p hp j

theorem firstTo_2 (row : List Ent) (p : Nat) (j : Nat) (hj : j ≤ 2) (h : row.length ≤ 2 * p + 1 + j) : firstTo row p 2 = firstTo row p j := by
  match j, hj with
  | 0, _ =>
    unfold firstTo
    rw [if_neg (by omega)]
    unfold firstTo
    rw [if_neg (by omega)]
    rfl
  | 1, _ =>
    rw [firstTo]
    rw [if_neg (by omega)]
  | 2, _ => rfl

theorem firstTo_or (row : List Ent) (p : Nat) : firstTo row p 2 = p ∨ firstTo row p 2 = 2 * p + 1 ∨ firstTo row p 2 = 2 * p + 2 := by
  rw [firstTo]
  split
  · omega
  · rw [firstTo]
    split
    · omega
    · left; rfl
end Hp

set_option maxHeartbeats 1000000 in
theorem firstOf_any {B : Nat} {w : World} {hb g cap ab ac most : Nat} {row : List Ent} {p : Nat} (h : HP B w hb (.slice (some ⟨g, 0, none⟩) row.length cap) ab ac most row) (hp : p < row.length) :
    Calls Try.prog 37 #[.pointer (some ⟨hb, 0, none⟩), .int .i64 p] w fun e w' => e = .returned (.int .i64 (firstTo row p 2)) ∧ Turns (fun _ => False) w w' := by
  have hl := h.len
  go_enter Try.func37, Try.ntmps37
  go_wp2
  go_step3
  go_wp2
  go_step3
  go_wp2
  go_loopw [5, 6] (fun f b wr => ∃ (j c q : Nat), f = .int .i64 q ∧ b = .int .i64 c ∧ j ≤ 2 ∧ Hid (c = 2 * p + 1 + j) ∧ q < row.length ∧ Hid (q = firstTo row p j) ∧ Turns (fun _ => False) w wr)
    (fun _ b _ => 2 * p + 3 - (intOf b).toNat)
  case atStart => exact ⟨0, 2 * p + 1, p, rfl, by go_num, by omega, rfl, hp, rfl, Turns.refl _ _⟩
  case round =>
    obtain ⟨j, c, q, rfl, rfl, hj, HC, hq, HQ, hT⟩ := hrel
    have hh := h.turns hT (fun _ h => h.elim)
    clear h
    have hc0 := hh.c0
    have hC := HC.out
    by_cases hc : 2 * p + 2 < c
    · have hj2 : j = 2 := by omega
      have HF : Hid (q = firstTo row p 2) := by rw [← hj2]; exact HQ
      have hc' : 2 * (p : Int) + 2 < (c : Int) := by omega
      clear hC hj2 hc
      go_wp2
      rw [Exit.noGoto_ret]
      go_ret
      rw [← HF.out]
      exact ⟨rfl, hT⟩
    · by_cases hcl : c < row.length
      · obtain ⟨x, hx⟩ : ∃ x, at' row c = x := ⟨_, rfl⟩
        obtain ⟨y, hy⟩ : ∃ y, at' row q = y := ⟨_, rfl⟩
        have gx := own_get hh.own rfl c hcl
        have gy := own_get hh.own rfl q hq
        have HS : Hid (firstTo row p (j + 1) = if ahd x y = true then c else q) := by
          show _ = _
          rw [firstTo, ← hC, ← HQ.out, hx, hy]
          simp [hcl]
        have hj1 : j + 1 ≤ 2 := by omega
        have HC2 : Hid (c + 1 = 2 * p + 1 + (j + 1)) := by show _ = _; omega
        rw [hx] at gx
        rw [hy] at gy
        obtain ⟨x1, x2, x3⟩ := gx
        obtain ⟨y1, y2, y3⟩ := gy
        have hc' : (c : Int) ≤ 2 * (p : Int) + 2 := by omega
        have b1 : (c : Int) < (row.length : Int) := by omega
        have b2 : (q : Int) < (row.length : Int) := by omega
        have b3 : (0 : Int) ≤ (c : Int) := by omega
        have b4 : (0 : Int) ≤ (q : Int) := by omega
        clear hx hy hC hc
        cases hA : ahd x y
        all_goals
          rw [hA] at HS
          rw [ahd_eq] at hA
          go_wp2_with fail
          go_region_held3 (fun w' => w'.cell? ⟨hb, 0, none⟩ = some (.slice (some ⟨g, 0, none⟩) row.length cap) ∧ w'.cell? ⟨g, c * 3, none⟩ = some (.int .i64 x.id) ∧ w'.cell? ⟨g, c * 3 + 1, none⟩ = some (.int .i64 x.prio) ∧ w'.cell? ⟨g, c * 3 + 2, none⟩ = some (.int .i64 x.seq) ∧
            w'.cell? ⟨g, q * 3, none⟩ = some (.int .i64 y.id) ∧ w'.cell? ⟨g, q * 3 + 1, none⟩ = some (.int .i64 y.prio) ∧ w'.cell? ⟨g, q * 3 + 2, none⟩ = some (.int .i64 y.seq)) (go_keep)
            (first | (go_at_call 35; refine (ahead_any _ _ _ _ _ _ _).mono ?_; rintro e w' ⟨rfl, rfl⟩))
          go_wp2_with fail
          go_roundw
          case rel => exact ⟨j + 1, c + 1, _, rfl, by go_num, hj1, HC2, by omega, HS.out.symm, ((hT.alloc _).alloc _).drew⟩
          case measure => simp [intOf]; omega
      · have HF : Hid (q = firstTo row p 2) := by show _ = _; rw [firstTo_2 row p j hj (by omega)]; exact HQ.out
        have hc' : (c : Int) ≤ 2 * (p : Int) + 2 := by omega
        have b1 : (row.length : Int) ≤ (c : Int) := by omega
        clear hC hcl hc
        go_wp2
        rw [Exit.noGoto_ret]
        go_ret
        rw [← HF.out]
        exact ⟨rfl, hT⟩

set_option maxHeartbeats 1000000 in
theorem sink_any {B : Nat} {w : World} {hb g cap ab ac most : Nat} {row : List Ent} {p : Nat} (h : HP B w hb (.slice (some ⟨g, 0, none⟩) row.length cap) ab ac most row) (hp : p < row.length) :
    Calls Try.prog 36 #[.pointer (some ⟨hb, 0, none⟩), .int .i64 p] w fun e w' => e = .returned (.tuple #[]) ∧
      HP B w' hb (.slice (some ⟨g, 0, none⟩) row.length cap) ab ac most (sink row.length row p) ∧ Turns (fun k => k = ab ∨ k = g) w w' := by
  have hl := h.len
  go_enter Try.func36, Try.ntmps36
  go_wp2
  go_step3
  go_wp2
  go_step3
  go_wp2
  go_loopw [1] (fun i wr => ∃ (k f : Nat) (rk : List Ent), i = .int .i64 k ∧ k < rk.length ∧ Hid (rk.length = row.length) ∧ rk.length - k ≤ f ∧ Hid (sink row.length row p = sink f rk k) ∧
      HP B wr hb (.slice (some ⟨g, 0, none⟩) rk.length cap) ab ac most rk ∧ Turns (fun k => k = ab ∨ k = g) w wr)
    (fun i _ => row.length - (intOf i).toNat)
  case atStart => exact ⟨p, row.length, row, rfl, hp, rfl, by omega, rfl, h, Turns.refl _ _⟩
  case round =>
    obtain ⟨k, f, rk, rfl, hk, HL, hkf, HE, hh, hT⟩ := hrel
    clear h hl hp
    have hl := hh.len
    have hqlt := firstTo_lt rk k hk 2
    have hor := firstTo_or rk k
    have hstep : sink f rk k = if firstTo rk k 2 = k then rk else sink (f - 1) (swp rk k (firstTo rk k 2)) (firstTo rk k 2) := by
      obtain ⟨f', rfl⟩ : ∃ f', f = f' + 1 := ⟨f - 1, by omega⟩
      simp only [sink, Nat.add_sub_cancel]
    generalize hq : firstTo rk k 2 = q at *
    have HQ : Hid (firstTo rk k 2 = q) := hq
    have HS : Hid (sink f rk k = if q = k then rk else sink (f - 1) (swp rk k q) q) := hstep
    clear hstep hq
    by_cases hqk : q = k
    · subst hqk
      clear hor
      have HS2 : Hid (sink f rk q = rk) := by show _ = _; rw [HS.out, if_pos rfl]
      clear HS
      have tst : ((q : Int) == (q : Int)) = true := by simp
      go_wp2_with fail
      refine (firstOf_any (B := B) (g := g) (cap := cap) (ab := ab) (ac := ac) (most := most) (row := rk) (p := q) hh hk).mono ?_
      rintro e w1 ⟨rfl, t1⟩
      rw [HQ.out]
      go_wp2_with fail
      rw [Exit.noGoto_normal]
      go_end0
      rw [HE.out, HS2.out, ← HL.out]
      exact ⟨rfl, hh.turns t1 (fun _ h => h.elim), hT.trans (t1.mono (fun _ _ h => h.elim))⟩
    · have tst : ((q : Int) == (k : Int)) = false := beq_eq_false_iff_ne.2 (by omega)
      have hkq : k < q := by omega
      clear hor
      have HS2 : Hid (sink f rk k = sink (f - 1) (swp rk k q) q) := by show _ = _; rw [HS.out, if_neg hqk]
      clear hqk HS
      go_wp2_with fail
      refine (firstOf_any (B := B) (g := g) (cap := cap) (ab := ab) (ac := ac) (most := most) (row := rk) (p := k) hh hk).mono ?_
      rintro e w1 ⟨rfl, t1⟩
      rw [HQ.out]
      go_wp2_with fail
      refine (swap_any (B := B) (g := g) (cap := cap) (ab := ab) (ac := ac) (most := most) (row := rk) (a := k) (b := q) ?_ hk (by omega)).mono ?_
      · exact hh.turns t1 (fun _ h => h.elim)
      rintro e w2 ⟨rfl, h2, t2⟩
      go_wp2_with fail
      go_roundw
      case rel =>
        exact ⟨q, f - 1, swp rk k q, rfl, by rw [swp_length]; omega, by rw [swp_length]; exact HL.out, by rw [swp_length]; omega, HE.out.trans HS2.out, by rw [swp_length]; exact h2, (hT.trans (t1.mono (fun _ _ h => h.elim))).trans t2⟩
      case measure =>
        have := HL.out
        simp [intOf]; omega

set_option maxHeartbeats 1000000 in
theorem settle_any {B : Nat} {w : World} {hb g cap ab ac most : Nat} {row : List Ent} {p : Nat} (h : HP B w hb (.slice (some ⟨g, 0, none⟩) row.length cap) ab ac most row) (hp : p < row.length) (hlen : (rise p row p).length = row.length) :
    Calls Try.prog 30 #[.pointer (some ⟨hb, 0, none⟩), .int .i64 p] w fun e w' => e = .returned (.tuple #[]) ∧
      HP B w' hb (.slice (some ⟨g, 0, none⟩) row.length cap) ab ac most (sink row.length (rise p row p) p) ∧ Turns (fun k => k = ab ∨ k = g) w w' := by
  have HLn : Hid ((rise p row p).length = row.length) := hlen
  clear hlen
  go_enter Try.func30, Try.ntmps30
  go_wp2_with fail
  refine (rise_any (B := B) (g := g) (cap := cap) (ab := ab) (ac := ac) (most := most) (row := row) (p := p) h hp).mono ?_
  rintro e w1 ⟨rfl, h1, t1⟩
  go_wp2_with fail
  refine (sink_any (B := B) (g := g) (cap := cap) (ab := ab) (ac := ac) (most := most) (row := rise p row p) (p := p) (by rw [HLn.out]; exact h1) (by rw [HLn.out]; exact hp)).mono ?_
  rw [HLn.out]
  rintro e w2 ⟨rfl, h2, t2⟩
  go_wp2_with fail
  go_end0
  exact ⟨rfl, h2, t1.trans t2⟩
end Go.Proofs.Ythlnbnklhajilaa
