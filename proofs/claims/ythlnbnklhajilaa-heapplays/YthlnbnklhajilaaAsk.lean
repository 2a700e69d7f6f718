/- Has, find, Top and New of a heap, by their contracts. -/
import Derived.Test.YthlnbnklhajilaaSink
namespace Go.Proofs.Ythlnbnklhajilaa
open Go.RowKit Hp

namespace Hp
def hasB (most : Nat) (row : List Ent) (id : Int) : Bool := knB most id && (place row id.toNat != 0)
end Hp

set_option maxHeartbeats 1000000 in
theorem has_any {B : Nat} {w : World} {hb ab ac most : Nat} {rv : Value} {row : List Ent} (id : Int) (h : HP B w hb rv ab ac most row) :
    Calls Try.prog 21 #[.pointer (some ⟨hb, 0, none⟩), .int .i64 id] w fun e w' => e = .returned (.bool (hasB most row id)) ∧ w' = w := by
  have hc1 := h.c1
  by_cases hk : knB most id = true
  · obtain ⟨k1, k2⟩ : 0 ≤ id ∧ id < (most : Int) := by simpa [knB] using hk
    have hcell := h.at id.toNat (by omega)
    have hA : hasB most row id = (place row id.toNat != 0) := by simp [hasB, hk]
    rw [hA]
    clear hA
    go_enter Try.func21, Try.ntmps21
    go_wp2_with fail
    refine (known_any hb ab ac most id _ hc1).mono ?_
    rintro e w1 ⟨rfl, rfl⟩
    rw [hk]
    clear hk
    go_wp2_with fail
    go_ret
    exact ⟨rfl, rfl⟩
  · have hk' : knB most id = false := by simpa using hk
    have hA : hasB most row id = false := by simp [hasB, hk']
    rw [hA]
    clear hA hk
    go_enter Try.func21, Try.ntmps21
    go_wp2_with fail
    refine (known_any hb ab ac most id _ hc1).mono ?_
    rintro e w1 ⟨rfl, rfl⟩
    rw [hk']
    clear hk'
    go_wp2_with fail
    go_ret
    exact ⟨rfl, rfl⟩

set_option maxHeartbeats 1000000 in
theorem find_arg {B : Nat} {w : World} {hb ab ac most : Nat} {rv : Value} {row : List Ent} (id : Int) (h : HP B w hb rv ab ac most row) (hk : knB most id = false) :
    Calls Try.prog 29 #[.pointer (some ⟨hb, 0, none⟩), .int .i64 id] w fun e w' => e = .returned (.tuple #[.int .i64 0, .int .i64 1]) ∧ w' = w := by
  have hc1 := h.c1
  go_enter Try.func29, Try.ntmps29
  go_wp2_with fail
  refine (known_any hb ab ac most id _ hc1).mono ?_
  rintro e w1 ⟨rfl, rfl⟩
  rw [hk]
  clear hk
  go_wp2_with fail
  go_ret2
  exact ⟨rfl, rfl⟩

set_option maxHeartbeats 1000000 in
theorem find_none {B : Nat} {w : World} {hb ab ac most : Nat} {rv : Value} {row : List Ent} (id : Int) (h : HP B w hb rv ab ac most row) (hk : knB most id = true) (hp : place row id.toNat = 0) :
    Calls Try.prog 29 #[.pointer (some ⟨hb, 0, none⟩), .int .i64 id] w fun e w' => e = .returned (.tuple #[.int .i64 0, .int .i64 8]) ∧ w' = w := by
  have hc1 := h.c1
  have hh : hasB most row id = false := by simp [hasB, hp]
  clear hp
  go_enter Try.func29, Try.ntmps29
  go_wp2_with fail
  refine (known_any hb ab ac most id _ hc1).mono ?_
  rintro e w1 ⟨rfl, rfl⟩
  rw [hk]
  clear hk
  go_wp2_with fail
  refine (has_any id h).mono ?_
  rintro e w1 ⟨rfl, rfl⟩
  rw [hh]
  clear hh
  go_wp2_with fail
  go_ret2
  exact ⟨rfl, rfl⟩

set_option maxHeartbeats 1000000 in
theorem find_some {B : Nat} {w : World} {hb ab ac most : Nat} {rv : Value} {row : List Ent} (id : Int) (p : Nat) (h : HP B w hb rv ab ac most row) (hk : knB most id = true) (hp : place row id.toNat = (p : Int) + 1) (hpl : p < row.length) :
    Calls Try.prog 29 #[.pointer (some ⟨hb, 0, none⟩), .int .i64 id] w fun e w' => e = .returned (.tuple #[.int .i64 p, .int .i64 0]) ∧ w' = w := by
  have hc1 := h.c1
  have hlen := h.len
  have hh : hasB most row id = true := by simp [hasB, hp, hk]; omega
  obtain ⟨k1, k2⟩ : 0 ≤ id ∧ id < (most : Int) := by simpa [knB] using hk
  have hcell := h.at id.toNat (by omega)
  rw [hp] at hcell
  clear hp
  go_enter Try.func29, Try.ntmps29
  go_wp2_with fail
  refine (known_any hb ab ac most id _ hc1).mono ?_
  rintro e w1 ⟨rfl, rfl⟩
  rw [hk]
  clear hk
  go_wp2_with fail
  refine (has_any id h).mono ?_
  rintro e w1 ⟨rfl, rfl⟩
  rw [hh]
  clear hh
  go_wp2_with fail
  go_ret2
  exact ⟨by simp, rfl⟩

set_option maxHeartbeats 1000000 in
theorem top_none {B : Nat} {w : World} {hb ab ac most : Nat} {rv : Value} (h : HP B w hb rv ab ac most []) :
    Calls Try.prog 18 #[.pointer (some ⟨hb, 0, none⟩)] w fun e w' => e = .returned (.tuple #[.int .i64 0, .bool false]) ∧ w' = w := by
  have hc0 := h.c0
  rcases h.form with ⟨rfl, _⟩ | ⟨g, cap, rfl, _, _, _⟩
  all_goals
    try simp only [List.length_nil] at hc0
    go_enter Try.func18, Try.ntmps18
    go_wp2_with fail
    go_ret2
    exact ⟨rfl, rfl⟩

set_option maxHeartbeats 1000000 in
theorem top_some {B : Nat} {w : World} {hb ab ac most : Nat} {rv : Value} {row : List Ent} (h : HP B w hb rv ab ac most row) (hn : 0 < row.length) :
    Calls Try.prog 18 #[.pointer (some ⟨hb, 0, none⟩)] w fun e w' => e = .returned (.tuple #[.int .i64 (at' row 0).id, .bool true]) ∧ w' = w := by
  have hc0 := h.c0
  rcases h.form with ⟨rfl, rfl⟩ | ⟨g, cap, rfl, _, _, _⟩
  · simp at hn
  · have g0 := (own_get h.own rfl 0 hn).1
    have t0 : ((row.length : Int) == 0) = false := beq_eq_false_iff_ne.2 (by omega)
    have t1 : (0 : Int) < (row.length : Int) := by omega
    simp only [Nat.zero_mul] at g0
    go_enter Try.func18, Try.ntmps18
    go_wp2_with fail
    go_ret2
    exact ⟨rfl, rfl⟩

set_option maxHeartbeats 1000000 in
theorem new_bad (n : Int) (w : World) (h : n < 1 ∨ 256 < n) :
    Calls Try.prog 9 #[.int .i64 n] w fun e w' => e = .returned (.tuple #[.pointer none, .int .i64 1]) ∧ w' = w := by
  rcases h with h | h
  · go_enter Try.func9, Try.ntmps9
    go_wp2_with fail
    go_ret2
    exact ⟨rfl, rfl⟩
  · have h' : ¬ n < 1 := by omega
    go_enter Try.func9, Try.ntmps9
    go_wp2_with fail
    go_ret2
    exact ⟨rfl, rfl⟩

theorem Try.info3 : (Try.prog.info? 3).map (fun i => (i.zero, i.size, i.bytes)) = some (some (.int .i64 0), 1, 8) := by kernel_rfl
theorem Try.info62 : (Try.prog.info? 62).map (fun i => (i.zero, i.size, i.bytes)) = some (some (.agg #[.int .i64 0, .int .i64 0, .int .i64 0]), 3, 24) := by kernel_rfl

theorem place_nil (id : Nat) : place [] id = 0 := rfl
theorem good_nil (most : Nat) : Hp.Good most [] := ⟨fun i h => by simp at h, fun i h => by simp at h, fun i j h => by simp at h⟩
theorem made_ats (n : Nat) : (madeCells (Value.int .i64 0).cells (n * 1)).toList = (atOf n []).map (Value.int .i64) := by
  have h1 : (atOf n []) = List.replicate n 0 := by
    unfold atOf
    apply List.ext_getElem
    · simp
    · intro i h1 h2; simp [place_nil]
  rw [h1, Nat.mul_one]
  apply List.ext_getElem
  · simp [madeCells]
  · intro i h1 h2
    simp [madeCells, Value.cells]
    rw [Nat.mod_one]
    rfl

set_option maxHeartbeats 1000000 in
theorem new_good (B : Nat) (n : Nat) (w : World) (h1 : 1 ≤ n) (h2 : n ≤ 256) (hB : B ≤ w.heap.size) :
    Calls Try.prog 9 #[.int .i64 n] w fun e w' => ∃ hb, e = .returned (.tuple #[.pointer (some ⟨hb, 0, none⟩), .int .i64 0]) ∧ ∃ ab,
      HP B w' hb (.slice none 0 0) ab n n [] ∧ Turns (fun _ => False) w w' ∧ w.heap.size ≤ hb ∧ w.heap.size ≤ ab := by
  obtain ⟨i, hi, hz0, hz1, hz2⟩ := info_parts Try.info3
  have g1 : ¬ (n : Int) < 1 := by omega
  have g2 : ¬ 256 < (n : Int) := by omega
  go_enter Try.func9, Try.ntmps9
  go_wp2_with (at_make; refine wpList_make_full _ rfl _ _ _ rfl B 3 i _ 1 Try.underlying48 hi hz0 hz1 .i64 .i64 _ _ n rfl rfl rfl rfl (by rw [hz2]; omega) (by unfold maxLen; omega) hB ?_; intro w1 hown hgrow)
  go_ret2
  have hs := hgrow.size
  have hlt : B ≤ w.heap.size ∧ w.heap.size < w1.heap.size := hown.lt _ rfl
  refine ⟨w1.heap.size, rfl, w.heap.size, ⟨World.ownsRow_nil _ _ _ _, ?_, ?_, by omega, by simp [Value.ownBlock], by simp [Value.ownBlock], good_nil n, h2, by simp⟩, (Turns.grown hgrow (fun k h => by cases h)).alloc _, hs, Nat.le_refl _⟩
  · rw [made_ats] at hown
    exact hown.alloc _
  · exact World.ownsRow_lit w1 #[.slice none 0 0, .slice (some ⟨w.heap.size, 0, none⟩) n n] 1 (by omega) (by unfold maxLen; omega) rfl
end Go.Proofs.Ythlnbnklhajilaa
