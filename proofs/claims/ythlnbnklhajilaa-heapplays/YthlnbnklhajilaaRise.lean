/- rise: an entry goes up while it goes ahead of the one above it; by its contract. -/
import Derived.Test.YthlnbnklhajilaaSwap
import Derived.Deep.LoopGhost
import Derived.Deep.RegionWith
import Derived.Deep.RegionHeld3
namespace Go.Proofs.Ythlnbnklhajilaa
open Go.RowKit Hp

namespace Hp
def rise : Nat → List Ent → Nat → List Ent
  | 0, row, _ => row
  | f + 1, row, p => if p = 0 then row else if ahd (at' row p) (at' row ((p - 1) / 2)) then rise f (swp row p ((p - 1) / 2)) ((p - 1) / 2) else row
end Hp

theorem ahd_eq (x y : Ent) : ahd x y = ahB x.id x.prio x.seq y.id y.prio y.seq := rfl

set_option maxHeartbeats 1000000 in
theorem rise_any {B : Nat} {w : World} {hb g cap ab ac most : Nat} {row : List Ent} {p : Nat} (h : HP B w hb (.slice (some ⟨g, 0, none⟩) row.length cap) ab ac most row) (hp : p < row.length) :
    Calls Try.prog 27 #[.pointer (some ⟨hb, 0, none⟩), .int .i64 p] w fun e w' => e = .returned (.tuple #[]) ∧
      HP B w' hb (.slice (some ⟨g, 0, none⟩) row.length cap) ab ac most (rise p row p) ∧ Turns (fun k => k = ab ∨ k = g) w w' := by
  have hl := h.len
  go_enter Try.func27, Try.ntmps27
  go_wp2
  go_step3
  go_wp2
  go_step3
  go_wp2
  go_loopw [1] (fun i wr => ∃ (k f : Nat) (rk : List Ent), i = .int .i64 k ∧ k < rk.length ∧ Hid (rk.length = row.length) ∧ k ≤ f ∧ Hid (rise p row p = rise f rk k) ∧
      HP B wr hb (.slice (some ⟨g, 0, none⟩) rk.length cap) ab ac most rk ∧ Turns (fun k => k = ab ∨ k = g) w wr)
    (fun i _ => (intOf i).toNat)
  case atStart => exact ⟨p, p, row, rfl, hp, rfl, Nat.le_refl _, rfl, h, Turns.refl _ _⟩
  case round =>
    obtain ⟨k, f, rk, rfl, hk, HL, hkf, HE, hh, hT⟩ := hrel
    clear h hl hp
    have hl := hh.len
    by_cases hk0 : k = 0
    · subst hk0
      go_wp2
      rw [Exit.noGoto_normal]
      go_end0
      rw [HE.out, ← HL.out]
      exact ⟨rfl, by cases f <;> exact hh, hT⟩
    · have hc0 := hh.c0
      obtain ⟨a, ha1, ha2⟩ : ∃ a : Nat, ((k : Int) - 1) / 2 = (a : Int) ∧ (k - 1) / 2 = a := ⟨(k - 1) / 2, by omega, rfl⟩
      obtain ⟨x, hx⟩ : ∃ x, at' rk k = x := ⟨_, rfl⟩
      obtain ⟨y, hy⟩ : ∃ y, at' rk a = y := ⟨_, rfl⟩
      have gx := own_get hh.own rfl k (by omega)
      have gy := own_get hh.own rfl a (by omega)
      have hak : a < k := by omega
      have hstep : rise f rk k = if ahd x y then rise (f - 1) (swp rk k a) a else rk := by
        obtain ⟨f', rfl⟩ : ∃ f', f = f' + 1 := ⟨f - 1, by omega⟩
        simp only [rise, Nat.add_sub_cancel]
        rw [if_neg hk0, ha2, hx, hy]
      have HS : Hid (rise f rk k = if ahd x y then rise (f - 1) (swp rk k a) a else rk) := hstep
      clear hstep
      rw [hx] at gx
      rw [hy] at gy
      obtain ⟨x1, x2, x3⟩ := gx
      obtain ⟨y1, y2, y3⟩ := gy
      clear hx hy ha2
      have hk1 : (0 : Int) < (k : Int) := by omega
      have b1 : (k : Int) < (rk.length : Int) := by omega
      have b2 : (a : Int) < (rk.length : Int) := by omega
      have b3 : (0 : Int) ≤ (k : Int) := by omega
      have b4 : (0 : Int) ≤ (a : Int) := by omega
      cases hA : ahd x y
      · have HA : Hid (ahd x y = false) := hA
        rw [ahd_eq] at hA
        go_wp2_with fail
        go_region_held3 (fun w' => w'.cell? ⟨hb, 0, none⟩ = some (.slice (some ⟨g, 0, none⟩) rk.length cap) ∧ w'.cell? ⟨g, k * 3, none⟩ = some (.int .i64 x.id) ∧ w'.cell? ⟨g, k * 3 + 1, none⟩ = some (.int .i64 x.prio) ∧ w'.cell? ⟨g, k * 3 + 2, none⟩ = some (.int .i64 x.seq) ∧
          w'.cell? ⟨g, a * 3, none⟩ = some (.int .i64 y.id) ∧ w'.cell? ⟨g, a * 3 + 1, none⟩ = some (.int .i64 y.prio) ∧ w'.cell? ⟨g, a * 3 + 2, none⟩ = some (.int .i64 y.seq)) (go_keep)
          (first | (go_at_call 35; refine (ahead_any _ _ _ _ _ _ _).mono ?_; rintro e w' ⟨rfl, rfl⟩))
        go_wp2_with fail
        rw [Exit.noGoto_normal]
        go_end0
        rw [HE.out, HS.out, HA.out, ← HL.out]
        exact ⟨rfl, hh.turns (S := fun _ => False) (((Turns.refl _ _).alloc _).alloc _).drew (fun _ h => h.elim), ((hT.alloc _).alloc _).drew⟩
      · have HA : Hid (ahd x y = true) := hA
        rw [ahd_eq] at hA
        go_wp2_with fail
        go_region_held3 (fun w' => w'.cell? ⟨hb, 0, none⟩ = some (.slice (some ⟨g, 0, none⟩) rk.length cap) ∧ w'.cell? ⟨g, k * 3, none⟩ = some (.int .i64 x.id) ∧ w'.cell? ⟨g, k * 3 + 1, none⟩ = some (.int .i64 x.prio) ∧ w'.cell? ⟨g, k * 3 + 2, none⟩ = some (.int .i64 x.seq) ∧
          w'.cell? ⟨g, a * 3, none⟩ = some (.int .i64 y.id) ∧ w'.cell? ⟨g, a * 3 + 1, none⟩ = some (.int .i64 y.prio) ∧ w'.cell? ⟨g, a * 3 + 2, none⟩ = some (.int .i64 y.seq)) (go_keep)
          (first | (go_at_call 35; refine (ahead_any _ _ _ _ _ _ _).mono ?_; rintro e w' ⟨rfl, rfl⟩))
        go_wp2_with fail
        refine (swap_any (B := B) (g := g) (cap := cap) (ab := ab) (ac := ac) (most := most) (row := rk) (a := k) (b := a) ?_ hk (by omega)).mono ?_
        · exact hh.turns (S := fun _ => False) (((Turns.refl _ _).alloc _).alloc _).drew (fun _ h => h.elim)
        rintro e w1 ⟨rfl, h1, t1⟩
        go_wp2_with fail
        go_roundw
        case rel =>
          refine ⟨a, f - 1, swp rk k a, rfl, by rw [swp_length]; omega, by rw [swp_length]; exact HL.out, by omega, ?_, by rw [swp_length]; exact h1, ((hT.alloc _).alloc _).drew.trans t1⟩
          show _ = _
          rw [HE.out, HS.out, HA.out, if_pos rfl]
        case measure => simp [intOf]; omega
end Go.Proofs.Ythlnbnklhajilaa
