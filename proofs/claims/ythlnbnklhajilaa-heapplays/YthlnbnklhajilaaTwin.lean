/- Clone and Twin, by their contracts. -/
import Derived.Test.YthlnbnklhajilaaRem
import Derived.WalkLawsBesides
import Derived.Maps.AppendAt
import Derived.Lib.SliceRun
namespace Go.Proofs.Ythlnbnklhajilaa
open Go.RowKit Hp

theorem own_form {w : World} {base : Nat} {e : TypeId} {size : Nat} {v : Value} {n : Nat} {xs : List Value} (h : w.ownsRow base e size v n xs) (hv : v ≠ .slice none 0 0) : ∃ g cap, v = .slice (some ⟨g, 0, none⟩) n cap := by
  rcases h.2 with ⟨h1, _⟩ | ⟨g, cap, cur, h1, _⟩
  · exact absurd h1 hv
  · exact ⟨g, cap, h1⟩

set_option maxHeartbeats 400000 in
theorem clone_nil (w : World) : Calls Try.prog 32 #[.slice none 0 0] w fun e w' => e = .returned (.slice none 0 0) ∧ w' = w := by
  have he : (binOp .eql 58 (.slice none 0 0) (.slice none 0 0)).run Try.prog w = .ok (.bool true) w := by
    simpa using Lib.run_eql_slice_nil (P := Try.prog) w 58 62 none 0 0 0 0 Try.underlying58
  go_enter Try.func32, Try.ntmps32
  go_wp2
  go_ret
  exact ⟨rfl, rfl⟩

set_option maxHeartbeats 400000 in
theorem clone_some (B g n cap : Nat) (xs : List Value) (w : World) (h : w.ownsRow B 62 3 (.slice (some ⟨g, 0, none⟩) n cap) n xs) (hx : ∀ u ∈ xs, u.oneCell' = true) (hn : n ≤ 256) (hB : B ≤ w.heap.size) :
    Calls Try.prog 32 #[.slice (some ⟨g, 0, none⟩) n cap] w fun e w' => ∃ g' cap', e = .returned (.slice (some ⟨g', 0, none⟩) n cap') ∧ w'.ownsRow B 62 3 (.slice (some ⟨g', 0, none⟩) n cap') n xs ∧ w.heap.size ≤ g' ∧ Turns (fun _ => False) w w' := by
  obtain ⟨i, hi, hz0, hz1, hz2⟩ := info_parts Try.info62
  have hl := h.1
  have HX : Hid (xs.length = n * 3) := hl
  clear hl
  have he : (binOp .eql 58 (.slice (some ⟨g, 0, none⟩) n cap) (.slice none 0 0)).run Try.prog w = .ok (.bool false) w := by
    simpa using Lib.run_eql_slice_nil (P := Try.prog) w 58 62 (some ⟨g, 0, none⟩) n cap 0 0 Try.underlying58
  have hown0 : (w.alloc (.cells #[] 62)).ownsRow B 62 3 (.slice (some ⟨w.heap.size, 0, none⟩) 0 0) 0 [] := World.ownsRow_made w #[] 0 hB (by unfold maxLen; omega) rfl
  have hnews : ∀ j u, xs[j]? = some u → (w.alloc (.cells #[] 62)).cell? ((⟨g, 0, none⟩ : Addr).add j) = some u := (h.alloc (.cells #[] 62)).cells rfl
  go_enter Try.func32, Try.ntmps32
  go_wp2_with (at_builtin; refine wpList_append_own_at _ rfl _ _ _ rfl B 62 i _ 3 24 Try.underlying58 hi hz0 hz1 hz2 rfl (by omega) (.slice (some ⟨w.heap.size, 0, none⟩) 0 0) 0 [] (by rfl) hown0 ⟨g, 0, none⟩ n cap xs (by rfl) HX.out hnews hx (by unfold maxLen; omega) (by omega) (by simp; omega) ?_; intro v' w' h1 h2 h3 h4)
  go_ret
  rw [Nat.zero_add, List.nil_append] at h1
  obtain ⟨g', cap', rfl⟩ := own_form h1 (fun e => by have := h3.1 e; cases this.1)
  have hg : w.heap.size ≤ g' := by simp [Value.ownBlock] at h4; omega
  exact ⟨g', cap', rfl, h1, hg, ((Turns.refl _ _).alloc _).next (Turns.grown (S := fun k => k = w.heap.size) h2 (fun k hk => by simp [Value.ownBlock] at hk; omega)) (fun i hi e => by omega)⟩

set_option maxHeartbeats 400000 in
theorem clone_ints (B g n cap : Nat) (xs : List Value) (w : World) (h : w.ownsRow B 3 1 (.slice (some ⟨g, 0, none⟩) n cap) n xs) (hx : ∀ u ∈ xs, u.oneCell' = true) (hn : n ≤ 256) (hB : B ≤ w.heap.size) :
    Calls Try.prog 33 #[.slice (some ⟨g, 0, none⟩) n cap] w fun e w' => ∃ g' cap', e = .returned (.slice (some ⟨g', 0, none⟩) n cap') ∧ w'.ownsRow B 3 1 (.slice (some ⟨g', 0, none⟩) n cap') n xs ∧ w.heap.size ≤ g' ∧ Turns (fun _ => False) w w' := by
  obtain ⟨i, hi, hz0, hz1, hz2⟩ := info_parts Try.info3
  have hl := h.1
  have HX : Hid (xs.length = n * 1) := hl
  clear hl
  have he : (binOp .eql 48 (.slice (some ⟨g, 0, none⟩) n cap) (.slice none 0 0)).run Try.prog w = .ok (.bool false) w := by
    simpa using Lib.run_eql_slice_nil (P := Try.prog) w 48 3 (some ⟨g, 0, none⟩) n cap 0 0 Try.underlying48
  have hown0 : (w.alloc (.cells #[] 3)).ownsRow B 3 1 (.slice (some ⟨w.heap.size, 0, none⟩) 0 0) 0 [] := World.ownsRow_made w #[] 0 hB (by unfold maxLen; omega) rfl
  have hnews : ∀ j u, xs[j]? = some u → (w.alloc (.cells #[] 3)).cell? ((⟨g, 0, none⟩ : Addr).add j) = some u := (h.alloc (.cells #[] 3)).cells rfl
  go_enter Try.func33, Try.ntmps33
  go_wp2_with (at_builtin; refine wpList_append_own_at _ rfl _ _ _ rfl B 3 i _ 1 8 Try.underlying48 hi hz0 hz1 hz2 rfl (by omega) (.slice (some ⟨w.heap.size, 0, none⟩) 0 0) 0 [] (by rfl) hown0 ⟨g, 0, none⟩ n cap xs (by rfl) HX.out hnews hx (by unfold maxLen; omega) (by omega) (by simp; omega) ?_; intro v' w' h1 h2 h3 h4)
  go_ret
  rw [Nat.zero_add, List.nil_append] at h1
  obtain ⟨g', cap', rfl⟩ := own_form h1 (fun e => by have := h3.1 e; cases this.1)
  have hg : w.heap.size ≤ g' := by simp [Value.ownBlock] at h4; omega
  exact ⟨g', cap', rfl, h1, hg, ((Turns.refl _ _).alloc _).next (Turns.grown (S := fun k => k = w.heap.size) h2 (fun k hk => by simp [Value.ownBlock] at hk; omega)) (fun i hi e => by omega)⟩

theorem flat_one (row : List Ent) : ∀ u ∈ flat row, u.oneCell' = true := by
  intro u hu
  simp only [flat, List.mem_flatMap] at hu
  obtain ⟨e, _, he⟩ := hu
  exact entV_one e u he
theorem ints_one (l : List Int) : ∀ u ∈ l.map (Value.int .i64), u.oneCell' = true := by
  intro u hu
  simp only [List.mem_map] at hu
  obtain ⟨e, _, rfl⟩ := hu
  rfl

/-- What a clone of the row leaves. -/
structure CloneOut (B : Nat) (w W w' : World) (t : TypeId) (size g cap n : Nat) (xs : List Value) : Prop where
  own : w'.ownsRow B t size (.slice (some ⟨g, 0, none⟩) n cap) n xs
  lo : W.heap.size ≤ g
  base : Turns (fun _ => False) w w'
  step : Turns (fun _ => False) W w'

theorem clone_row {B : Nat} {w W : World} {hb g cap ab ac most : Nat} {row : List Ent} (h : HP B w hb (.slice (some ⟨g, 0, none⟩) row.length cap) ab ac most row) (hB : B ≤ w.heap.size) (t : Turns (fun _ => False) w W) :
    Calls Try.prog 32 #[.slice (some ⟨g, 0, none⟩) row.length cap] W fun e w' => ∃ g' cap', e = .returned (.slice (some ⟨g', 0, none⟩) row.length cap') ∧ CloneOut B w W w' 62 3 g' cap' row.length (flat row) := by
  refine (clone_some B g row.length cap (flat row) W (owns_turns h.own t (fun _ _ h => h)) (flat_one row) h.len (Nat.le_trans hB t.size)).mono ?_
  rintro e w' ⟨g', cap', rfl, h1, h2, h3⟩
  exact ⟨g', cap', rfl, h1, h2, t.trans h3, h3⟩

theorem clone_ats {B : Nat} {w W : World} {hb ab ac most : Nat} {rv : Value} {row : List Ent} (h : HP B w hb rv ab ac most row) (hB : B ≤ w.heap.size) (t : Turns (fun _ => False) w W) :
    Calls Try.prog 33 #[.slice (some ⟨ab, 0, none⟩) most ac] W fun e w' => ∃ g' cap', e = .returned (.slice (some ⟨g', 0, none⟩) most cap') ∧ CloneOut B w W w' 3 1 g' cap' most ((atOf most row).map (Value.int .i64)) := by
  refine (clone_ints B ab most ac _ W (owns_turns h.ats t (fun _ _ h => h)) (ints_one _) h.top (Nat.le_trans hB t.size)).mono ?_
  rintro e w' ⟨g', cap', rfl, h1, h2, h3⟩
  exact ⟨g', cap', rfl, h1, h2, t.trans h3, h3⟩

/-- A twin's heap. -/
structure TwinOut (B : Nat) (w w' : World) (hb ab ac most : Nat) (rv : Value) (row : List Ent) : Prop where
  hp : HP B w' hb rv ab ac most row
  lo : ∀ k, Foot hb rv ab k → w.heap.size ≤ k
  tu : Turns (fun _ => False) w w'

theorem twin_out {B : Nat} {w w2 : World} {hb ab ac most g2 c2 : Nat} {rv rv2 : Value} {row : List Ent} (h : HP B w hb rv ab ac most row) (hB : B ≤ w.heap.size)
    (o1 : w2.ownsRow B 62 3 rv2 row.length (flat row)) (o2 : w2.ownsRow B 3 1 (.slice (some ⟨g2, 0, none⟩) most c2) most ((atOf most row).map (Value.int .i64))) (hne : rv2.ownBlock ≠ some g2)
    (l1 : ∀ k, rv2.ownBlock = some k → w.heap.size ≤ k) (l2 : w.heap.size ≤ g2) (t : Turns (fun _ => False) w w2) :
    TwinOut B w (w2.alloc (.cells #[rv2, .slice (some ⟨g2, 0, none⟩) most c2] 60)) w2.heap.size g2 c2 most rv2 row := by
  have k1 := o1.lt
  have k2 := (o2.lt g2 rfl).2
  have hs := t.size
  refine ⟨⟨o1.alloc _, o2.alloc _, World.ownsRow_lit w2 _ 1 (by omega) (by unfold maxLen; omega) rfl, by omega, ?_, hne, h.good, h.top, h.len⟩, ?_, t.alloc _⟩
  · intro e; have := (k1 _ e).2; omega
  · intro k hk
    rcases hk with rfl | rfl | hk
    · exact hs
    · exact l2
    · exact l1 k hk

set_option maxHeartbeats 2000000 in
theorem twin_some {B : Nat} {w : World} {hb g cap ab ac most : Nat} {row : List Ent} (h : HP B w hb (.slice (some ⟨g, 0, none⟩) row.length cap) ab ac most row) (hB : B ≤ w.heap.size) :
    Calls Try.prog 17 #[.pointer (some ⟨hb, 0, none⟩)] w fun e w' => ∃ hb', e = .returned (.pointer (some ⟨hb', 0, none⟩)) ∧ ∃ rv' ab' ac', TwinOut B w w' hb' ab' ac' most rv' row := by
  have hc0 := h.c0
  have hc1 := h.c1
  have hlt := h.hb_lt
  have T0 : Turns (fun _ => False) w w := Turns.refl _ _
  have T00 : Turns (fun _ => False) w w.drew := (Turns.refl _ _).drew
  go_enter Try.func17, Try.ntmps17
  go_wp2_with fail
  go_region_held3 (fun w' => w'.cell? ⟨hb, 0, none⟩ = some (.slice (some ⟨g, 0, none⟩) row.length cap) ∧ w'.cell? ⟨hb, 1, none⟩ = some (.slice (some ⟨ab, 0, none⟩) most ac)) (go_keep)
    (first | (go_at_call 32; refine (clone_row h hB (by assumption)).mono ?_; rintro e w1 ⟨g1, c1, rfl, O1⟩; have T1 := O1.base; have z0 := T1.cell hc0 hlt (fun x => x); have z1 := T1.cell hc1 hlt (fun x => x)) | (go_at_call 33; refine (clone_ats h hB (by assumption)).mono ?_; rintro e w2 ⟨g2, c2, rfl, O2⟩; have T2 := O2.base; have z2 := T2.cell hc0 hlt (fun x => x); have z3 := T2.cell hc1 hlt (fun x => x)))
  go_wp2_with fail
  go_ret
  have k1 : B ≤ g1 ∧ g1 < w1.heap.size := O1.own.lt g1 rfl
  have k2 := O2.lo
  have k3 : w.heap.size ≤ g1 := O1.lo
  have k4 := O2.step.size
  have k5 := T1.size
  exact ⟨w2.heap.size, rfl, _, g2, c2, twin_out h hB (owns_turns O1.own O2.step (fun _ _ h => h)) O2.own (fun e => by simp [Value.ownBlock] at e; omega) (fun k e => by simp [Value.ownBlock] at e; omega) (by omega) T2⟩

set_option maxHeartbeats 2000000 in
theorem twin_nil {B : Nat} {w : World} {hb ab ac most : Nat} (h : HP B w hb (.slice none 0 0) ab ac most []) (hB : B ≤ w.heap.size) :
    Calls Try.prog 17 #[.pointer (some ⟨hb, 0, none⟩)] w fun e w' => ∃ hb', e = .returned (.pointer (some ⟨hb', 0, none⟩)) ∧ ∃ rv' ab' ac', TwinOut B w w' hb' ab' ac' most rv' [] := by
  have hc0 := h.c0
  have hc1 := h.c1
  have hlt := h.hb_lt
  have T0 : Turns (fun _ => False) w w := Turns.refl _ _
  have T00 : Turns (fun _ => False) w w.drew := (Turns.refl _ _).drew
  go_enter Try.func17, Try.ntmps17
  go_wp2_with fail
  go_region_held3 (fun w' => w'.cell? ⟨hb, 0, none⟩ = some (.slice none 0 0) ∧ w'.cell? ⟨hb, 1, none⟩ = some (.slice (some ⟨ab, 0, none⟩) most ac)) (go_keep)
    (first | (go_at_call 32; refine (clone_nil _).mono ?_; rintro e w1 ⟨rfl, rfl⟩) | (go_at_call 33; refine (clone_ats h hB (by assumption)).mono ?_; rintro e w2 ⟨g2, c2, rfl, O2⟩; have T2 := O2.base; have z2 := T2.cell hc0 hlt (fun x => x); have z3 := T2.cell hc1 hlt (fun x => x)))
  go_wp2_with fail
  go_ret
  have k2 : w.heap.size ≤ g2 := O2.lo
  exact ⟨w2.heap.size, rfl, _, g2, c2, twin_out h hB (World.ownsRow_nil _ _ _ _) O2.own (fun e => by simp [Value.ownBlock] at e) (fun k e => by simp [Value.ownBlock] at e) k2 T2⟩

theorem twin_any {B : Nat} {w : World} {hb ab ac most : Nat} {rv : Value} {row : List Ent} (h : HP B w hb rv ab ac most row) (hB : B ≤ w.heap.size) :
    Calls Try.prog 17 #[.pointer (some ⟨hb, 0, none⟩)] w fun e w' => ∃ hb', e = .returned (.pointer (some ⟨hb', 0, none⟩)) ∧ ∃ rv' ab' ac', TwinOut B w w' hb' ab' ac' most rv' row := by
  rcases h.form with ⟨rfl, rfl⟩ | ⟨g, cap, rfl, _, _, _⟩
  · exact twin_nil h hB
  · exact twin_some h hB
end Go.Proofs.Ythlnbnklhajilaa
