/- known of the law's package answers true. -/
import Derived.Test.YthlnbnklhajilaaInts
namespace Go.Proofs.Ythlnbnklhajilaa
open Go.RowKit Hp

theorem HP.frame {B : Nat} {w0 w w' : World} {hb : Nat} {rv : Value} {ab ac most : Nat} {row : List Ent} (h : HP B w hb rv ab ac most row) (hB : w0.heap.size ≤ B) (T : Turns (fun _ => False) w0 w) (t : Turns (Foot hb rv ab) w w') : Turns (fun _ => False) w0 w' :=
  T.next t (fun k hk hf => by have := (h.foot k hf).1; omega)

/-- Order's row as numbers. -/
theorem order_ints {B : Nat} {w : World} {hb ab ac most : Nat} {rv : Value} {row : List Ent} (h : HP B w hb rv ab ac most row) (hB : B ≤ w.heap.size) :
    Calls Try.prog 24 #[.pointer (some ⟨hb, 0, none⟩)] w fun e w' => ∃ og, e = .returned (.slice (some ⟨og, 0, none⟩) row.length row.length) ∧
      IntRow B w' (.slice (some ⟨og, 0, none⟩) row.length row.length) ((drn row.length row).map (·.id)) ∧ w.heap.size ≤ og ∧ Turns (fun _ => False) w w' := by
  refine (order_any h hB).mono ?_
  rintro e w' ⟨og, rfl, h1, h2, h3⟩
  refine ⟨og, rfl, ?_, h2, h3⟩
  unfold IntRow
  rw [List.length_map, List.map_map, drain_len]
  exact h1

theorem lit_ints (B : Nat) (w : World) (l : List Int) (hB : B ≤ w.heap.size) (hl : l.length ≤ maxLen) : IntRow B (w.alloc (.cells (l.map intV).toArray 3)) (.slice (some ⟨w.heap.size, 0, none⟩) l.length l.length) l := by
  unfold IntRow
  have := World.ownsRow_lit (base := B) (e := 3) (size := 1) w (l.map intV).toArray l.length hB hl (by simp)
  simpa using this

def K1 : List Ent := [⟨2, 5, 9⟩]
def K2 : List Ent := [⟨0, 5, 3⟩, ⟨2, 5, 9⟩]
def K3 : List Ent := [⟨0, 5, 3⟩, ⟨2, 5, 9⟩, ⟨3, 1, 1⟩]
def K4 : List Ent := [⟨3, 7, 1⟩, ⟨2, 5, 9⟩, ⟨0, 5, 3⟩]
def K5 : List Ent := [⟨3, 7, 1⟩, ⟨2, 5, 9⟩]

theorem k1 : rise ([] : List Ent).length ([] ++ [⟨2, 5, 9⟩]) ([] : List Ent).length = K1 := rfl
theorem k2 : rise K1.length (K1 ++ [⟨0, 5, 3⟩]) K1.length = K2 := rfl
theorem k3 : rise K2.length (K2 ++ [⟨3, 1, 1⟩]) K2.length = K3 := rfl
theorem k4 : sink K3.length (rise 2 (setPrio K3 2 7) 2) 2 = K4 := rfl
theorem k5 : remR K4 2 = K5 := rfl
theorem k6 : (drn K3.length K3).map (·.id) = [0, 2, 3] := rfl
theorem k7 : (drn K4.length K4).map (·.id) = [3, 0, 2] := rfl

set_option maxHeartbeats 2000000 in
theorem known_true (w : World) : Calls Try.prog 8 #[] w fun e w' => e = .returned (.bool true) ∧ Turns (fun _ => False) w w' := by
  go_enter Try.func8, Try.ntmps8
  go_wp2_with fail
  refine (new_good w.heap.size 4 w (by omega) (by omega) (Nat.le_refl _)).mono ?_
  rintro e w1 ⟨hb, rfl, ab, h1, t1, _, _⟩
  go_wp2_with fail
  refine (new_bad 0 w1 (by omega)).mono ?_
  rintro e w2 ⟨rfl, hw⟩
  subst w2
  go_wp2_with fail
  refine (top_none h1).mono ?_
  rintro e w2 ⟨rfl, hw⟩
  subst w2
  go_wp2_with fail
  refine (put_ok 2 5 9 h1 rfl rfl t1.size).mono ?_
  rintro e w2 ⟨rfl, rv2, h2, t2, _⟩
  rw [k1] at h2
  have T2 := h1.frame (Nat.le_refl _) t1 t2
  go_wp2_with fail
  refine (put_ok 0 5 3 h2 rfl rfl T2.size).mono ?_
  rintro e w3 ⟨rfl, rv3, h3, t3, _⟩
  rw [k2] at h3
  have T3 := h2.frame (Nat.le_refl _) T2 t3
  go_wp2_with fail
  refine (put_ok 3 1 1 h3 rfl rfl T3.size).mono ?_
  rintro e w4 ⟨rfl, rv4, h4, t4, _⟩
  rw [k3] at h4
  have T4 := h3.frame (Nat.le_refl _) T3 t4
  go_wp2_with fail
  refine (order_ints h4 T4.size).mono ?_
  rintro e w5 ⟨og, rfl, i5, l5, t5⟩
  have F4 := h4.foot
  rw [k6] at i5
  have h5 := h4.turns t5 (fun _ h => h.elim)
  have T5 := T4.trans t5
  go_wp2_with fail
  refine (set_ok 3 7 2 h5 rfl rfl (by decide)).mono ?_
  rintro e w6 ⟨rfl, h6, t6⟩
  rw [k4] at h6
  have T6 := h5.frame (Nat.le_refl _) T5 t6
  have i6 := i5.turns t6 (fun k e hf => by have := (F4 k hf).2; simp [Value.ownBlock] at e; omega)
  have L6 := Nat.le_trans t5.size t6.size
  go_wp2_with fail
  refine (order_ints h6 T6.size).mono ?_
  rintro e w7 ⟨og2, rfl, i7, l7, t7⟩
  rw [k7] at i7
  have h7 := h6.turns t7 (fun _ h => h.elim)
  have T7 := T6.trans t7
  have j7 := i6.turns t7 (fun _ _ h => h)
  go_wp2_with fail
  refine (remove_ok 0 2 h7 rfl rfl (by decide) rfl).mono ?_
  rintro e w8 ⟨rfl, rv8, h8, t8, _⟩
  rw [k5] at h8
  have T8 := h7.frame (Nat.le_refl _) T7 t8
  have i8 := i7.turns t8 (fun k e hf => by have := (F4 k hf).2; simp [Value.ownBlock] at e; omega)
  have j8 := j7.turns t8 (fun k e hf => by have := (F4 k hf).2; simp [Value.ownBlock] at e; omega)
  go_wp2_with fail
  refine (top_some h8 (by decide)).mono ?_
  rintro e w9 ⟨rfl, hw⟩
  subst w9
  go_wp2_with fail
  refine (ints_any (j8.turns ((Turns.refl (fun _ => False) _).alloc _) (fun _ _ h => h)) (lit_ints w.heap.size w8 [0, 2, 3] T8.size (by decide)) (by decide)).mono ?_
  rintro e w9 ⟨rfl, t9⟩
  have T9 := (T8.alloc (.cells #[.int .i64 0, .int .i64 2, .int .i64 3] 3)).trans t9
  have i9 := i8.turns (((Turns.refl (fun _ => False) w8).alloc (.cells #[.int .i64 0, .int .i64 2, .int .i64 3] 3)).trans t9) (fun _ _ h => h)
  have h9 := h8.turns (((Turns.refl (fun _ => False) w8).alloc (.cells #[.int .i64 0, .int .i64 2, .int .i64 3] 3)).trans t9) (fun _ h => h.elim)
  go_wp2_with fail
  refine (ints_any (i9.turns ((Turns.refl (fun _ => False) _).alloc _) (fun _ _ h => h)) (lit_ints w.heap.size w9 [3, 0, 2] T9.size (by decide)) (by decide)).mono ?_
  rintro e w10 ⟨rfl, t10⟩
  have T10 := (T9.alloc (.cells #[.int .i64 3, .int .i64 0, .int .i64 2] 3)).trans t10
  have h10 := h9.turns (((Turns.refl (fun _ => False) w9).alloc (.cells #[.int .i64 3, .int .i64 0, .int .i64 2] 3)).trans t10) (fun _ h => h.elim)
  go_wp2_with fail
  refine (len_hp h10).mono ?_
  rintro e w11 ⟨rfl, hw⟩
  subst w11
  go_wp2_with fail
  refine (put_twice 3 0 0 h10 rfl (by decide)).mono ?_
  rintro e w11 ⟨rfl, hw⟩
  subst w11
  go_wp2_with fail
  refine (put_arg 4 0 0 h10 rfl).mono ?_
  rintro e w11 ⟨rfl, hw⟩
  subst w11
  go_wp2_with fail
  refine (set_none 0 1 h10 rfl rfl).mono ?_
  rintro e w11 ⟨rfl, hw⟩
  subst w11
  go_wp2_with fail
  refine (remove_arg (-1) h10 rfl).mono ?_
  rintro e w11 ⟨rfl, hw⟩
  subst w11
  go_wp2_with fail
  refine (has_any 0 h10).mono ?_
  rintro e w11 ⟨rfl, hw⟩
  subst w11
  rw [show hasB 4 K5 0 = false from rfl]
  go_wp2_with fail
  refine (has_any 2 h10).mono ?_
  rintro e w11 ⟨rfl, hw⟩
  subst w11
  rw [show hasB 4 K5 2 = true from rfl]
  go_wp2_with fail
  refine (has_any 9 h10).mono ?_
  rintro e w11 ⟨rfl, hw⟩
  subst w11
  rw [show hasB 4 K5 9 = false from rfl]
  go_wp2_with fail
  go_ret
  exact ⟨rfl, T10⟩
end Go.Proofs.Ythlnbnklhajilaa
