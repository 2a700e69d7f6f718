/- Text. -/
import Derived.Test.YtolljdomnohmdabGreatDoorM7
import Derived.Test.YtolljdomnohmdabGreatDoorCheck
namespace Go.Proofs.YtolljdomnohmdabGreatDoor
open Go.RowKit

/-- What there is while Text goes on. -/
structure Txt (w wX : World) (c1 c2 : List Value) (rv : Value) (lst : List (List UInt8)) : Prop where
  b1 : Box w.heap.size wX 37 w.heap.size c1
  b2 : Box w.heap.size wX 95 (w.heap.size + 1) c2
  row : StrRow w.heap.size wX rv lst
  far : ∀ b, rv.ownBlock = some b → w.heap.size + 2 ≤ b
  kept : Kept w wX
theorem Txt.call {w wX wY : World} {c1 c2 : List Value} {rv : Value} {lst : List (List UInt8)} (h : Txt w wX c1 c2 rv lst) (t : Kept wX wY) : Txt w wY c1 c2 rv lst :=
  ⟨h.b1.kept t, h.b2.kept t, h.row.kept t, h.far, h.kept.trans t⟩
theorem Txt.app {w wX wY wZ : World} {c1 c2 : List Value} {rv : Value} {lst lst' : List (List UInt8)} {g n c : Nat} (h : Txt w wX c1 c2 rv lst) (k : Kept wX wY) (t : Turns (fun k => rv.ownBlock = some k) wY wZ) (f : rv.ownBlock = some g ∨ wY.heap.size ≤ g) (r : StrRow w.heap.size wZ (.slice (some ⟨g, 0, none⟩) n c) lst') : Txt w wZ c1 c2 (.slice (some ⟨g, 0, none⟩) n c) lst' := by
  have l2 := (h.b2.kept k).lt.2
  refine ⟨(h.b1.kept k).turns t (fun e => by have := h.far _ e; omega), (h.b2.kept k).turns t (fun e => by have := h.far _ e; omega), r, ?_, t.kept (h.kept.trans k) (fun i hi => by have := h.far _ hi; omega)⟩
  intro q hq
  simp [Value.ownBlock] at hq
  subst hq
  rcases f with f | f
  · exact h.far _ f
  · omega
theorem txt_start (w : World) (c1 c2 : List Value) (x : List UInt8) (h1 : c1.length ≤ 1000) (h2 : c2.length ≤ 1000) : Txt w (((w.alloc (.cells c1.toArray 37)).alloc (.cells c2.toArray 95)).alloc (.cells #[.string (B x)] 9)) c1 c2 (.slice (some ⟨w.heap.size + 1 + 1, 0, none⟩) 1 1) [x] := by
  have hb := boxes3 w 37 95 9 c1 c2 [.string (B x)] h1 h2 (by simp)
  refine ⟨hb.1, hb.2.1, hb.2.2.1, ?_, hb.2.2.2⟩
  intro q hq
  simp [Value.ownBlock] at hq
  omega
theorem StrRow.some {base : Nat} {w : World} {v : Value} {l : List (List UInt8)} (h : StrRow base w v l) (hl : 0 < l.length) : ∃ g c, v = .slice (some ⟨g, 0, none⟩) l.length c ∧ At w (some ⟨g, 0, none⟩) l.length l ∧ base ≤ g := by
  obtain ⟨a, c, rfl, hat⟩ := h.at
  obtain ⟨b, f, rfl, _⟩ := hat.2 0 hl
  have hf := own_form h (by simp)
  obtain ⟨g, cap, e⟩ := hf
  cases e
  exact ⟨b, c, rfl, hat, h.far _ rfl⟩
theorem cases_len : ∀ l : List CaseD, (∀ c ∈ l, in64 c.chan ∧ in64 c.v) → ∀ x ∈ l.flatMap caseW, x.length ≤ 60 := by
  intro l h x hx
  obtain ⟨c, hc, hx⟩ := List.mem_flatMap.1 hx
  have := h c hc
  unfold caseW at hx
  split at hx
  · simp only [List.mem_cons, List.not_mem_nil, or_false] at hx
    rcases hx with rfl | rfl | rfl
    · decide
    · have := itoa_len this.1; omega
    · have := itoa_len this.2; omega
  · simp only [List.mem_cons, List.not_mem_nil, or_false] at hx
    rcases hx with rfl | rfl
    · decide
    · have := itoa_len this.1; omega
theorem cases_pos {l : List CaseD} (h : 0 < l.length) : 0 < (l.flatMap caseW).length := by
  cases l with
  | nil => simp at h
  | cons c r =>
    rw [List.flatMap_cons, List.length_append]
    have : 0 < (caseW c).length := by unfold caseW; split <;> simp
    omega

set_option maxHeartbeats 2000000 in
theorem optext_k1 (n v wt : Int) (a : Option Addr) (m c : Nat) (l : List CaseD) (w : World) (hr : Rdy w) (hA : AtC w a m l) (_ : m ≤ 20) (hp : True) (hi : In64 ⟨1, n, v, wt, l⟩) :
    Calls Tryz.prog 22 #[.agg #[.int .i64 1, .int .i64 n, .int .i64 v, .int .i64 wt, .slice a m c]] w fun e w' => e = .returned (.string (B (textD ⟨1, n, v, wt, l⟩))) ∧ Kept w w' := by
  have hk := isKind_any 1
  rw [show isKindB 1 = true from rfl] at hk
  obtain ⟨g0, g1, g2, g3, g4, g5, g6⟩ := hr.k1
  have hlt := hr.lt
  have HR : Hid (Rdy w) := hr
  have HA : Hid (AtC w a m l) := hA
  have HI : Hid (In64 ⟨1, n, v, wt, l⟩) := hi
  have HP : Hid (True) := hp
  clear hr hA hi hp
  have S0 := txt_start w [.int .i64 1, .int .i64 n, .int .i64 v, .int .i64 wt, .slice a m c] [.string (B [114, 117, 110]), .bool true, .bool false, .bool false, .bool false, .int .i64 1, .int .i64 1000] [114, 117, 110] (by simp) (by simp)
  go_enter Tryz.func22, Tryz.ntmps22
  go_wp2_with fail
  refine (hk _).mono ?_
  rintro e w1 ⟨rfl, hw⟩
  subst w1
  go_wp2_with fail
  refine (text_any n HI.out.n.1 HI.out.n.2 _ (HR.out.kept S0.kept)).mono ?_
  rintro e w1 ⟨rfl, t1⟩
  have S1 := S0.call t1
  have q0 : w1.cell? ⟨w.heap.size + 1, 1, none⟩ = some (.bool true) := S1.b2.cell 1 (by simp)
  have q1 : w1.cell? ⟨w.heap.size + 1, 2, none⟩ = some (.bool false) := S1.b2.cell 2 (by simp)
  have q2 : w1.cell? ⟨w.heap.size + 1, 3, none⟩ = some (.bool false) := S1.b2.cell 3 (by simp)
  have q3 : w1.cell? ⟨w.heap.size + 1, 4, none⟩ = some (.bool false) := S1.b2.cell 4 (by simp)
  have r0 : w1.cell? ⟨w.heap.size, 1, none⟩ = some (.int .i64 n) := S1.b1.cell 1 (by simp)
  have r1 : w1.cell? ⟨w.heap.size, 2, none⟩ = some (.int .i64 v) := S1.b1.cell 2 (by simp)
  have r2 : w1.cell? ⟨w.heap.size, 3, none⟩ = some (.int .i64 wt) := S1.b1.cell 3 (by simp)
  have r3 : w1.cell? ⟨w.heap.size, 4, none⟩ = some (.slice a m c) := S1.b1.cell 4 (by simp)
  have z1 := S1.b1.lt.2
  have z2 := S1.b2.lt.2
  have hB1 := S1.kept.size
  go_wp2_with (at_builtin; refine wpList_append_strs _ (by rfl) _ _ rfl w.heap.size (.slice (some ⟨w.heap.size + 1 + 1, 0, none⟩) 1 1) [[114, 117, 110]] [Lib.itoa n] w1.heap.size 0 1 (by rfl) (by rfl) (S1.row.kept ((Kept.refl _).alloc _)) (lit_strs w1 [Lib.itoa n] _ rfl) (by simp) (by simp) (le_alloc _ hB1) ?_; intro g2x c2x w2 i2 t2 f2; have S2 := S1.app ((Kept.refl _).alloc _) t2 f2 i2; clear q0 q1 q2 q3 r0 r1 r2 r3 z1 z2; have q0 : w2.cell? ⟨w.heap.size + 1, 1, none⟩ = some (.bool true) := S2.b2.cell 1 (by simp); have q1 : w2.cell? ⟨w.heap.size + 1, 2, none⟩ = some (.bool false) := S2.b2.cell 2 (by simp); have q2 : w2.cell? ⟨w.heap.size + 1, 3, none⟩ = some (.bool false) := S2.b2.cell 3 (by simp); have q3 : w2.cell? ⟨w.heap.size + 1, 4, none⟩ = some (.bool false) := S2.b2.cell 4 (by simp); have r0 : w2.cell? ⟨w.heap.size, 1, none⟩ = some (.int .i64 n) := S2.b1.cell 1 (by simp); have r1 : w2.cell? ⟨w.heap.size, 2, none⟩ = some (.int .i64 v) := S2.b1.cell 2 (by simp); have r2 : w2.cell? ⟨w.heap.size, 3, none⟩ = some (.int .i64 wt) := S2.b1.cell 3 (by simp); have r3 : w2.cell? ⟨w.heap.size, 4, none⟩ = some (.slice a m c) := S2.b1.cell 4 (by simp); have z1 := S2.b1.lt.2; have z2 := S2.b2.lt.2)
  refine (join_any S2.row (by simp) ?_ (by simp)).mono ?_
  · intro x hx
    simp only [List.mem_append, List.mem_cons, List.not_mem_nil, or_false] at hx
    rcases hx with rfl | rfl
    · decide
    · have hx : (Lib.itoa n).length ≤ 20 := itoa_len HI.out.n
      omega
  rintro e wL ⟨rfl, tL⟩
  go_wp2_with fail
  go_ret
  exact ⟨rfl, S2.kept.trans tL⟩
set_option maxHeartbeats 2000000 in
theorem optext_k2 (n v wt : Int) (a : Option Addr) (m c : Nat) (l : List CaseD) (w : World) (hr : Rdy w) (hA : AtC w a m l) (_ : m ≤ 20) (hp : True) (hi : In64 ⟨2, n, v, wt, l⟩) :
    Calls Tryz.prog 22 #[.agg #[.int .i64 2, .int .i64 n, .int .i64 v, .int .i64 wt, .slice a m c]] w fun e w' => e = .returned (.string (B (textD ⟨2, n, v, wt, l⟩))) ∧ Kept w w' := by
  have hk := isKind_any 2
  rw [show isKindB 2 = true from rfl] at hk
  obtain ⟨g0, g1, g2, g3, g4, g5, g6⟩ := hr.k2
  have hlt := hr.lt
  have HR : Hid (Rdy w) := hr
  have HA : Hid (AtC w a m l) := hA
  have HI : Hid (In64 ⟨2, n, v, wt, l⟩) := hi
  have HP : Hid (True) := hp
  clear hr hA hi hp
  have S0 := txt_start w [.int .i64 2, .int .i64 n, .int .i64 v, .int .i64 wt, .slice a m c] [.string (B [108, 111, 99, 107]), .bool true, .bool false, .bool false, .bool false, .int .i64 0, .int .i64 7] [108, 111, 99, 107] (by simp) (by simp)
  go_enter Tryz.func22, Tryz.ntmps22
  go_wp2_with fail
  refine (hk _).mono ?_
  rintro e w1 ⟨rfl, hw⟩
  subst w1
  go_wp2_with fail
  refine (text_any n HI.out.n.1 HI.out.n.2 _ (HR.out.kept S0.kept)).mono ?_
  rintro e w1 ⟨rfl, t1⟩
  have S1 := S0.call t1
  have q0 : w1.cell? ⟨w.heap.size + 1, 1, none⟩ = some (.bool true) := S1.b2.cell 1 (by simp)
  have q1 : w1.cell? ⟨w.heap.size + 1, 2, none⟩ = some (.bool false) := S1.b2.cell 2 (by simp)
  have q2 : w1.cell? ⟨w.heap.size + 1, 3, none⟩ = some (.bool false) := S1.b2.cell 3 (by simp)
  have q3 : w1.cell? ⟨w.heap.size + 1, 4, none⟩ = some (.bool false) := S1.b2.cell 4 (by simp)
  have r0 : w1.cell? ⟨w.heap.size, 1, none⟩ = some (.int .i64 n) := S1.b1.cell 1 (by simp)
  have r1 : w1.cell? ⟨w.heap.size, 2, none⟩ = some (.int .i64 v) := S1.b1.cell 2 (by simp)
  have r2 : w1.cell? ⟨w.heap.size, 3, none⟩ = some (.int .i64 wt) := S1.b1.cell 3 (by simp)
  have r3 : w1.cell? ⟨w.heap.size, 4, none⟩ = some (.slice a m c) := S1.b1.cell 4 (by simp)
  have z1 := S1.b1.lt.2
  have z2 := S1.b2.lt.2
  have hB1 := S1.kept.size
  go_wp2_with (at_builtin; refine wpList_append_strs _ (by rfl) _ _ rfl w.heap.size (.slice (some ⟨w.heap.size + 1 + 1, 0, none⟩) 1 1) [[108, 111, 99, 107]] [Lib.itoa n] w1.heap.size 0 1 (by rfl) (by rfl) (S1.row.kept ((Kept.refl _).alloc _)) (lit_strs w1 [Lib.itoa n] _ rfl) (by simp) (by simp) (le_alloc _ hB1) ?_; intro g2x c2x w2 i2 t2 f2; have S2 := S1.app ((Kept.refl _).alloc _) t2 f2 i2; clear q0 q1 q2 q3 r0 r1 r2 r3 z1 z2; have q0 : w2.cell? ⟨w.heap.size + 1, 1, none⟩ = some (.bool true) := S2.b2.cell 1 (by simp); have q1 : w2.cell? ⟨w.heap.size + 1, 2, none⟩ = some (.bool false) := S2.b2.cell 2 (by simp); have q2 : w2.cell? ⟨w.heap.size + 1, 3, none⟩ = some (.bool false) := S2.b2.cell 3 (by simp); have q3 : w2.cell? ⟨w.heap.size + 1, 4, none⟩ = some (.bool false) := S2.b2.cell 4 (by simp); have r0 : w2.cell? ⟨w.heap.size, 1, none⟩ = some (.int .i64 n) := S2.b1.cell 1 (by simp); have r1 : w2.cell? ⟨w.heap.size, 2, none⟩ = some (.int .i64 v) := S2.b1.cell 2 (by simp); have r2 : w2.cell? ⟨w.heap.size, 3, none⟩ = some (.int .i64 wt) := S2.b1.cell 3 (by simp); have r3 : w2.cell? ⟨w.heap.size, 4, none⟩ = some (.slice a m c) := S2.b1.cell 4 (by simp); have z1 := S2.b1.lt.2; have z2 := S2.b2.lt.2)
  refine (join_any S2.row (by simp) ?_ (by simp)).mono ?_
  · intro x hx
    simp only [List.mem_append, List.mem_cons, List.not_mem_nil, or_false] at hx
    rcases hx with rfl | rfl
    · decide
    · have hx : (Lib.itoa n).length ≤ 20 := itoa_len HI.out.n
      omega
  rintro e wL ⟨rfl, tL⟩
  go_wp2_with fail
  go_ret
  exact ⟨rfl, S2.kept.trans tL⟩
set_option maxHeartbeats 2000000 in
theorem optext_k3 (n v wt : Int) (a : Option Addr) (m c : Nat) (l : List CaseD) (w : World) (hr : Rdy w) (hA : AtC w a m l) (_ : m ≤ 20) (hp : True) (hi : In64 ⟨3, n, v, wt, l⟩) :
    Calls Tryz.prog 22 #[.agg #[.int .i64 3, .int .i64 n, .int .i64 v, .int .i64 wt, .slice a m c]] w fun e w' => e = .returned (.string (B (textD ⟨3, n, v, wt, l⟩))) ∧ Kept w w' := by
  have hk := isKind_any 3
  rw [show isKindB 3 = true from rfl] at hk
  obtain ⟨g0, g1, g2, g3, g4, g5, g6⟩ := hr.k3
  have hlt := hr.lt
  have HR : Hid (Rdy w) := hr
  have HA : Hid (AtC w a m l) := hA
  have HI : Hid (In64 ⟨3, n, v, wt, l⟩) := hi
  have HP : Hid (True) := hp
  clear hr hA hi hp
  have S0 := txt_start w [.int .i64 3, .int .i64 n, .int .i64 v, .int .i64 wt, .slice a m c] [.string (B [117, 110, 108, 111, 99, 107]), .bool true, .bool false, .bool false, .bool false, .int .i64 0, .int .i64 7] [117, 110, 108, 111, 99, 107] (by simp) (by simp)
  go_enter Tryz.func22, Tryz.ntmps22
  go_wp2_with fail
  refine (hk _).mono ?_
  rintro e w1 ⟨rfl, hw⟩
  subst w1
  go_wp2_with fail
  refine (text_any n HI.out.n.1 HI.out.n.2 _ (HR.out.kept S0.kept)).mono ?_
  rintro e w1 ⟨rfl, t1⟩
  have S1 := S0.call t1
  have q0 : w1.cell? ⟨w.heap.size + 1, 1, none⟩ = some (.bool true) := S1.b2.cell 1 (by simp)
  have q1 : w1.cell? ⟨w.heap.size + 1, 2, none⟩ = some (.bool false) := S1.b2.cell 2 (by simp)
  have q2 : w1.cell? ⟨w.heap.size + 1, 3, none⟩ = some (.bool false) := S1.b2.cell 3 (by simp)
  have q3 : w1.cell? ⟨w.heap.size + 1, 4, none⟩ = some (.bool false) := S1.b2.cell 4 (by simp)
  have r0 : w1.cell? ⟨w.heap.size, 1, none⟩ = some (.int .i64 n) := S1.b1.cell 1 (by simp)
  have r1 : w1.cell? ⟨w.heap.size, 2, none⟩ = some (.int .i64 v) := S1.b1.cell 2 (by simp)
  have r2 : w1.cell? ⟨w.heap.size, 3, none⟩ = some (.int .i64 wt) := S1.b1.cell 3 (by simp)
  have r3 : w1.cell? ⟨w.heap.size, 4, none⟩ = some (.slice a m c) := S1.b1.cell 4 (by simp)
  have z1 := S1.b1.lt.2
  have z2 := S1.b2.lt.2
  have hB1 := S1.kept.size
  go_wp2_with (at_builtin; refine wpList_append_strs _ (by rfl) _ _ rfl w.heap.size (.slice (some ⟨w.heap.size + 1 + 1, 0, none⟩) 1 1) [[117, 110, 108, 111, 99, 107]] [Lib.itoa n] w1.heap.size 0 1 (by rfl) (by rfl) (S1.row.kept ((Kept.refl _).alloc _)) (lit_strs w1 [Lib.itoa n] _ rfl) (by simp) (by simp) (le_alloc _ hB1) ?_; intro g2x c2x w2 i2 t2 f2; have S2 := S1.app ((Kept.refl _).alloc _) t2 f2 i2; clear q0 q1 q2 q3 r0 r1 r2 r3 z1 z2; have q0 : w2.cell? ⟨w.heap.size + 1, 1, none⟩ = some (.bool true) := S2.b2.cell 1 (by simp); have q1 : w2.cell? ⟨w.heap.size + 1, 2, none⟩ = some (.bool false) := S2.b2.cell 2 (by simp); have q2 : w2.cell? ⟨w.heap.size + 1, 3, none⟩ = some (.bool false) := S2.b2.cell 3 (by simp); have q3 : w2.cell? ⟨w.heap.size + 1, 4, none⟩ = some (.bool false) := S2.b2.cell 4 (by simp); have r0 : w2.cell? ⟨w.heap.size, 1, none⟩ = some (.int .i64 n) := S2.b1.cell 1 (by simp); have r1 : w2.cell? ⟨w.heap.size, 2, none⟩ = some (.int .i64 v) := S2.b1.cell 2 (by simp); have r2 : w2.cell? ⟨w.heap.size, 3, none⟩ = some (.int .i64 wt) := S2.b1.cell 3 (by simp); have r3 : w2.cell? ⟨w.heap.size, 4, none⟩ = some (.slice a m c) := S2.b1.cell 4 (by simp); have z1 := S2.b1.lt.2; have z2 := S2.b2.lt.2)
  refine (join_any S2.row (by simp) ?_ (by simp)).mono ?_
  · intro x hx
    simp only [List.mem_append, List.mem_cons, List.not_mem_nil, or_false] at hx
    rcases hx with rfl | rfl
    · decide
    · have hx : (Lib.itoa n).length ≤ 20 := itoa_len HI.out.n
      omega
  rintro e wL ⟨rfl, tL⟩
  go_wp2_with fail
  go_ret
  exact ⟨rfl, S2.kept.trans tL⟩
set_option maxHeartbeats 2000000 in
theorem optext_k4 (n v wt : Int) (a : Option Addr) (m c : Nat) (l : List CaseD) (w : World) (hr : Rdy w) (hA : AtC w a m l) (_ : m ≤ 20) (hp : True) (hi : In64 ⟨4, n, v, wt, l⟩) :
    Calls Tryz.prog 22 #[.agg #[.int .i64 4, .int .i64 n, .int .i64 v, .int .i64 wt, .slice a m c]] w fun e w' => e = .returned (.string (B (textD ⟨4, n, v, wt, l⟩))) ∧ Kept w w' := by
  have hk := isKind_any 4
  rw [show isKindB 4 = true from rfl] at hk
  obtain ⟨g0, g1, g2, g3, g4, g5, g6⟩ := hr.k4
  have hlt := hr.lt
  have HR : Hid (Rdy w) := hr
  have HA : Hid (AtC w a m l) := hA
  have HI : Hid (In64 ⟨4, n, v, wt, l⟩) := hi
  have HP : Hid (True) := hp
  clear hr hA hi hp
  have S0 := txt_start w [.int .i64 4, .int .i64 n, .int .i64 v, .int .i64 wt, .slice a m c] [.string (B [115, 101, 110, 100]), .bool true, .bool true, .bool true, .bool false, .int .i64 0, .int .i64 7] [115, 101, 110, 100] (by simp) (by simp)
  go_enter Tryz.func22, Tryz.ntmps22
  go_wp2_with fail
  refine (hk _).mono ?_
  rintro e w1 ⟨rfl, hw⟩
  subst w1
  go_wp2_with fail
  refine (text_any n HI.out.n.1 HI.out.n.2 _ (HR.out.kept S0.kept)).mono ?_
  rintro e w1 ⟨rfl, t1⟩
  have S1 := S0.call t1
  have q0 : w1.cell? ⟨w.heap.size + 1, 1, none⟩ = some (.bool true) := S1.b2.cell 1 (by simp)
  have q1 : w1.cell? ⟨w.heap.size + 1, 2, none⟩ = some (.bool true) := S1.b2.cell 2 (by simp)
  have q2 : w1.cell? ⟨w.heap.size + 1, 3, none⟩ = some (.bool true) := S1.b2.cell 3 (by simp)
  have q3 : w1.cell? ⟨w.heap.size + 1, 4, none⟩ = some (.bool false) := S1.b2.cell 4 (by simp)
  have r0 : w1.cell? ⟨w.heap.size, 1, none⟩ = some (.int .i64 n) := S1.b1.cell 1 (by simp)
  have r1 : w1.cell? ⟨w.heap.size, 2, none⟩ = some (.int .i64 v) := S1.b1.cell 2 (by simp)
  have r2 : w1.cell? ⟨w.heap.size, 3, none⟩ = some (.int .i64 wt) := S1.b1.cell 3 (by simp)
  have r3 : w1.cell? ⟨w.heap.size, 4, none⟩ = some (.slice a m c) := S1.b1.cell 4 (by simp)
  have z1 := S1.b1.lt.2
  have z2 := S1.b2.lt.2
  have hB1 := S1.kept.size
  go_wp2_with (at_builtin; refine wpList_append_strs _ (by rfl) _ _ rfl w.heap.size (.slice (some ⟨w.heap.size + 1 + 1, 0, none⟩) 1 1) [[115, 101, 110, 100]] [Lib.itoa n] w1.heap.size 0 1 (by rfl) (by rfl) (S1.row.kept ((Kept.refl _).alloc _)) (lit_strs w1 [Lib.itoa n] _ rfl) (by simp) (by simp) (le_alloc _ hB1) ?_; intro g2x c2x w2 i2 t2 f2; have S2 := S1.app ((Kept.refl _).alloc _) t2 f2 i2; clear q0 q1 q2 q3 r0 r1 r2 r3 z1 z2; have q0 : w2.cell? ⟨w.heap.size + 1, 1, none⟩ = some (.bool true) := S2.b2.cell 1 (by simp); have q1 : w2.cell? ⟨w.heap.size + 1, 2, none⟩ = some (.bool true) := S2.b2.cell 2 (by simp); have q2 : w2.cell? ⟨w.heap.size + 1, 3, none⟩ = some (.bool true) := S2.b2.cell 3 (by simp); have q3 : w2.cell? ⟨w.heap.size + 1, 4, none⟩ = some (.bool false) := S2.b2.cell 4 (by simp); have r0 : w2.cell? ⟨w.heap.size, 1, none⟩ = some (.int .i64 n) := S2.b1.cell 1 (by simp); have r1 : w2.cell? ⟨w.heap.size, 2, none⟩ = some (.int .i64 v) := S2.b1.cell 2 (by simp); have r2 : w2.cell? ⟨w.heap.size, 3, none⟩ = some (.int .i64 wt) := S2.b1.cell 3 (by simp); have r3 : w2.cell? ⟨w.heap.size, 4, none⟩ = some (.slice a m c) := S2.b1.cell 4 (by simp); have z1 := S2.b1.lt.2; have z2 := S2.b2.lt.2)
  refine (text_any v HI.out.v.1 HI.out.v.2 _ (HR.out.kept S2.kept)).mono ?_
  rintro e w3 ⟨rfl, t3⟩
  have S3 := S2.call t3
  clear q0 q1 q2 q3 r0 r1 r2 r3 z1 z2
  have q0 : w3.cell? ⟨w.heap.size + 1, 1, none⟩ = some (.bool true) := S3.b2.cell 1 (by simp)
  have q1 : w3.cell? ⟨w.heap.size + 1, 2, none⟩ = some (.bool true) := S3.b2.cell 2 (by simp)
  have q2 : w3.cell? ⟨w.heap.size + 1, 3, none⟩ = some (.bool true) := S3.b2.cell 3 (by simp)
  have q3 : w3.cell? ⟨w.heap.size + 1, 4, none⟩ = some (.bool false) := S3.b2.cell 4 (by simp)
  have r0 : w3.cell? ⟨w.heap.size, 1, none⟩ = some (.int .i64 n) := S3.b1.cell 1 (by simp)
  have r1 : w3.cell? ⟨w.heap.size, 2, none⟩ = some (.int .i64 v) := S3.b1.cell 2 (by simp)
  have r2 : w3.cell? ⟨w.heap.size, 3, none⟩ = some (.int .i64 wt) := S3.b1.cell 3 (by simp)
  have r3 : w3.cell? ⟨w.heap.size, 4, none⟩ = some (.slice a m c) := S3.b1.cell 4 (by simp)
  have z1 := S3.b1.lt.2
  have z2 := S3.b2.lt.2
  have hB3 := S3.kept.size
  go_wp2_with (at_builtin; refine wpList_append_strs _ (by rfl) _ _ rfl w.heap.size (.slice (some ⟨g2x, 0, none⟩) 2 c2x) ([[115, 101, 110, 100]] ++ [Lib.itoa n]) [Lib.itoa v] w3.heap.size 0 1 (by rfl) (by rfl) (S3.row.kept ((Kept.refl _).alloc _)) (lit_strs w3 [Lib.itoa v] _ rfl) (by simp) (by simp) (le_alloc _ hB3) ?_; intro g4x c4x w4 i4 t4 f4; have S4 := S3.app ((Kept.refl _).alloc _) t4 f4 i4; clear q0 q1 q2 q3 r0 r1 r2 r3 z1 z2; have q0 : w4.cell? ⟨w.heap.size + 1, 1, none⟩ = some (.bool true) := S4.b2.cell 1 (by simp); have q1 : w4.cell? ⟨w.heap.size + 1, 2, none⟩ = some (.bool true) := S4.b2.cell 2 (by simp); have q2 : w4.cell? ⟨w.heap.size + 1, 3, none⟩ = some (.bool true) := S4.b2.cell 3 (by simp); have q3 : w4.cell? ⟨w.heap.size + 1, 4, none⟩ = some (.bool false) := S4.b2.cell 4 (by simp); have r0 : w4.cell? ⟨w.heap.size, 1, none⟩ = some (.int .i64 n) := S4.b1.cell 1 (by simp); have r1 : w4.cell? ⟨w.heap.size, 2, none⟩ = some (.int .i64 v) := S4.b1.cell 2 (by simp); have r2 : w4.cell? ⟨w.heap.size, 3, none⟩ = some (.int .i64 wt) := S4.b1.cell 3 (by simp); have r3 : w4.cell? ⟨w.heap.size, 4, none⟩ = some (.slice a m c) := S4.b1.cell 4 (by simp); have z1 := S4.b1.lt.2; have z2 := S4.b2.lt.2)
  refine (waitText_any wt HI.out.wait _ (HR.out.kept S4.kept)).mono ?_
  rintro e w5 ⟨rfl, t5⟩
  have S5 := S4.call t5
  clear q0 q1 q2 q3 r0 r1 r2 r3 z1 z2
  have q0 : w5.cell? ⟨w.heap.size + 1, 1, none⟩ = some (.bool true) := S5.b2.cell 1 (by simp)
  have q1 : w5.cell? ⟨w.heap.size + 1, 2, none⟩ = some (.bool true) := S5.b2.cell 2 (by simp)
  have q2 : w5.cell? ⟨w.heap.size + 1, 3, none⟩ = some (.bool true) := S5.b2.cell 3 (by simp)
  have q3 : w5.cell? ⟨w.heap.size + 1, 4, none⟩ = some (.bool false) := S5.b2.cell 4 (by simp)
  have r0 : w5.cell? ⟨w.heap.size, 1, none⟩ = some (.int .i64 n) := S5.b1.cell 1 (by simp)
  have r1 : w5.cell? ⟨w.heap.size, 2, none⟩ = some (.int .i64 v) := S5.b1.cell 2 (by simp)
  have r2 : w5.cell? ⟨w.heap.size, 3, none⟩ = some (.int .i64 wt) := S5.b1.cell 3 (by simp)
  have r3 : w5.cell? ⟨w.heap.size, 4, none⟩ = some (.slice a m c) := S5.b1.cell 4 (by simp)
  have z1 := S5.b1.lt.2
  have z2 := S5.b2.lt.2
  have hB5 := S5.kept.size
  go_wp2_with (at_builtin; refine wpList_append_strs _ (by rfl) _ _ rfl w.heap.size (.slice (some ⟨g4x, 0, none⟩) 3 c4x) (([[115, 101, 110, 100]] ++ [Lib.itoa n]) ++ [Lib.itoa v]) [waitT wt] w5.heap.size 0 1 (by rfl) (by rfl) (S5.row.kept ((Kept.refl _).alloc _)) (lit_strs w5 [waitT wt] _ rfl) (by simp) (by simp) (le_alloc _ hB5) ?_; intro g6x c6x w6 i6 t6 f6; have S6 := S5.app ((Kept.refl _).alloc _) t6 f6 i6; clear q0 q1 q2 q3 r0 r1 r2 r3 z1 z2; have q0 : w6.cell? ⟨w.heap.size + 1, 1, none⟩ = some (.bool true) := S6.b2.cell 1 (by simp); have q1 : w6.cell? ⟨w.heap.size + 1, 2, none⟩ = some (.bool true) := S6.b2.cell 2 (by simp); have q2 : w6.cell? ⟨w.heap.size + 1, 3, none⟩ = some (.bool true) := S6.b2.cell 3 (by simp); have q3 : w6.cell? ⟨w.heap.size + 1, 4, none⟩ = some (.bool false) := S6.b2.cell 4 (by simp); have r0 : w6.cell? ⟨w.heap.size, 1, none⟩ = some (.int .i64 n) := S6.b1.cell 1 (by simp); have r1 : w6.cell? ⟨w.heap.size, 2, none⟩ = some (.int .i64 v) := S6.b1.cell 2 (by simp); have r2 : w6.cell? ⟨w.heap.size, 3, none⟩ = some (.int .i64 wt) := S6.b1.cell 3 (by simp); have r3 : w6.cell? ⟨w.heap.size, 4, none⟩ = some (.slice a m c) := S6.b1.cell 4 (by simp); have z1 := S6.b1.lt.2; have z2 := S6.b2.lt.2)
  refine (join_any S6.row (by simp) ?_ (by simp)).mono ?_
  · intro x hx
    simp only [List.mem_append, List.mem_cons, List.not_mem_nil, or_false] at hx
    rcases hx with ((rfl | rfl) | rfl) | rfl
    · decide
    · have hx : (Lib.itoa n).length ≤ 20 := itoa_len HI.out.n
      omega
    · have hx : (Lib.itoa v).length ≤ 20 := itoa_len HI.out.v
      omega
    · have hx : (waitT wt).length ≤ 20 := waitT_len HI.out.wait
      omega
  rintro e wL ⟨rfl, tL⟩
  go_wp2_with fail
  go_ret
  exact ⟨rfl, S6.kept.trans tL⟩
set_option maxHeartbeats 2000000 in
theorem optext_k5 (n v wt : Int) (a : Option Addr) (m c : Nat) (l : List CaseD) (w : World) (hr : Rdy w) (hA : AtC w a m l) (_ : m ≤ 20) (hp : True) (hi : In64 ⟨5, n, v, wt, l⟩) :
    Calls Tryz.prog 22 #[.agg #[.int .i64 5, .int .i64 n, .int .i64 v, .int .i64 wt, .slice a m c]] w fun e w' => e = .returned (.string (B (textD ⟨5, n, v, wt, l⟩))) ∧ Kept w w' := by
  have hk := isKind_any 5
  rw [show isKindB 5 = true from rfl] at hk
  obtain ⟨g0, g1, g2, g3, g4, g5, g6⟩ := hr.k5
  have hlt := hr.lt
  have HR : Hid (Rdy w) := hr
  have HA : Hid (AtC w a m l) := hA
  have HI : Hid (In64 ⟨5, n, v, wt, l⟩) := hi
  have HP : Hid (True) := hp
  clear hr hA hi hp
  have S0 := txt_start w [.int .i64 5, .int .i64 n, .int .i64 v, .int .i64 wt, .slice a m c] [.string (B [114, 101, 99, 118]), .bool true, .bool false, .bool true, .bool false, .int .i64 0, .int .i64 7] [114, 101, 99, 118] (by simp) (by simp)
  go_enter Tryz.func22, Tryz.ntmps22
  go_wp2_with fail
  refine (hk _).mono ?_
  rintro e w1 ⟨rfl, hw⟩
  subst w1
  go_wp2_with fail
  refine (text_any n HI.out.n.1 HI.out.n.2 _ (HR.out.kept S0.kept)).mono ?_
  rintro e w1 ⟨rfl, t1⟩
  have S1 := S0.call t1
  have q0 : w1.cell? ⟨w.heap.size + 1, 1, none⟩ = some (.bool true) := S1.b2.cell 1 (by simp)
  have q1 : w1.cell? ⟨w.heap.size + 1, 2, none⟩ = some (.bool false) := S1.b2.cell 2 (by simp)
  have q2 : w1.cell? ⟨w.heap.size + 1, 3, none⟩ = some (.bool true) := S1.b2.cell 3 (by simp)
  have q3 : w1.cell? ⟨w.heap.size + 1, 4, none⟩ = some (.bool false) := S1.b2.cell 4 (by simp)
  have r0 : w1.cell? ⟨w.heap.size, 1, none⟩ = some (.int .i64 n) := S1.b1.cell 1 (by simp)
  have r1 : w1.cell? ⟨w.heap.size, 2, none⟩ = some (.int .i64 v) := S1.b1.cell 2 (by simp)
  have r2 : w1.cell? ⟨w.heap.size, 3, none⟩ = some (.int .i64 wt) := S1.b1.cell 3 (by simp)
  have r3 : w1.cell? ⟨w.heap.size, 4, none⟩ = some (.slice a m c) := S1.b1.cell 4 (by simp)
  have z1 := S1.b1.lt.2
  have z2 := S1.b2.lt.2
  have hB1 := S1.kept.size
  go_wp2_with (at_builtin; refine wpList_append_strs _ (by rfl) _ _ rfl w.heap.size (.slice (some ⟨w.heap.size + 1 + 1, 0, none⟩) 1 1) [[114, 101, 99, 118]] [Lib.itoa n] w1.heap.size 0 1 (by rfl) (by rfl) (S1.row.kept ((Kept.refl _).alloc _)) (lit_strs w1 [Lib.itoa n] _ rfl) (by simp) (by simp) (le_alloc _ hB1) ?_; intro g2x c2x w2 i2 t2 f2; have S2 := S1.app ((Kept.refl _).alloc _) t2 f2 i2; clear q0 q1 q2 q3 r0 r1 r2 r3 z1 z2; have q0 : w2.cell? ⟨w.heap.size + 1, 1, none⟩ = some (.bool true) := S2.b2.cell 1 (by simp); have q1 : w2.cell? ⟨w.heap.size + 1, 2, none⟩ = some (.bool false) := S2.b2.cell 2 (by simp); have q2 : w2.cell? ⟨w.heap.size + 1, 3, none⟩ = some (.bool true) := S2.b2.cell 3 (by simp); have q3 : w2.cell? ⟨w.heap.size + 1, 4, none⟩ = some (.bool false) := S2.b2.cell 4 (by simp); have r0 : w2.cell? ⟨w.heap.size, 1, none⟩ = some (.int .i64 n) := S2.b1.cell 1 (by simp); have r1 : w2.cell? ⟨w.heap.size, 2, none⟩ = some (.int .i64 v) := S2.b1.cell 2 (by simp); have r2 : w2.cell? ⟨w.heap.size, 3, none⟩ = some (.int .i64 wt) := S2.b1.cell 3 (by simp); have r3 : w2.cell? ⟨w.heap.size, 4, none⟩ = some (.slice a m c) := S2.b1.cell 4 (by simp); have z1 := S2.b1.lt.2; have z2 := S2.b2.lt.2)
  refine (waitText_any wt HI.out.wait _ (HR.out.kept S2.kept)).mono ?_
  rintro e w3 ⟨rfl, t3⟩
  have S3 := S2.call t3
  clear q0 q1 q2 q3 r0 r1 r2 r3 z1 z2
  have q0 : w3.cell? ⟨w.heap.size + 1, 1, none⟩ = some (.bool true) := S3.b2.cell 1 (by simp)
  have q1 : w3.cell? ⟨w.heap.size + 1, 2, none⟩ = some (.bool false) := S3.b2.cell 2 (by simp)
  have q2 : w3.cell? ⟨w.heap.size + 1, 3, none⟩ = some (.bool true) := S3.b2.cell 3 (by simp)
  have q3 : w3.cell? ⟨w.heap.size + 1, 4, none⟩ = some (.bool false) := S3.b2.cell 4 (by simp)
  have r0 : w3.cell? ⟨w.heap.size, 1, none⟩ = some (.int .i64 n) := S3.b1.cell 1 (by simp)
  have r1 : w3.cell? ⟨w.heap.size, 2, none⟩ = some (.int .i64 v) := S3.b1.cell 2 (by simp)
  have r2 : w3.cell? ⟨w.heap.size, 3, none⟩ = some (.int .i64 wt) := S3.b1.cell 3 (by simp)
  have r3 : w3.cell? ⟨w.heap.size, 4, none⟩ = some (.slice a m c) := S3.b1.cell 4 (by simp)
  have z1 := S3.b1.lt.2
  have z2 := S3.b2.lt.2
  have hB3 := S3.kept.size
  go_wp2_with (at_builtin; refine wpList_append_strs _ (by rfl) _ _ rfl w.heap.size (.slice (some ⟨g2x, 0, none⟩) 2 c2x) ([[114, 101, 99, 118]] ++ [Lib.itoa n]) [waitT wt] w3.heap.size 0 1 (by rfl) (by rfl) (S3.row.kept ((Kept.refl _).alloc _)) (lit_strs w3 [waitT wt] _ rfl) (by simp) (by simp) (le_alloc _ hB3) ?_; intro g4x c4x w4 i4 t4 f4; have S4 := S3.app ((Kept.refl _).alloc _) t4 f4 i4; clear q0 q1 q2 q3 r0 r1 r2 r3 z1 z2; have q0 : w4.cell? ⟨w.heap.size + 1, 1, none⟩ = some (.bool true) := S4.b2.cell 1 (by simp); have q1 : w4.cell? ⟨w.heap.size + 1, 2, none⟩ = some (.bool false) := S4.b2.cell 2 (by simp); have q2 : w4.cell? ⟨w.heap.size + 1, 3, none⟩ = some (.bool true) := S4.b2.cell 3 (by simp); have q3 : w4.cell? ⟨w.heap.size + 1, 4, none⟩ = some (.bool false) := S4.b2.cell 4 (by simp); have r0 : w4.cell? ⟨w.heap.size, 1, none⟩ = some (.int .i64 n) := S4.b1.cell 1 (by simp); have r1 : w4.cell? ⟨w.heap.size, 2, none⟩ = some (.int .i64 v) := S4.b1.cell 2 (by simp); have r2 : w4.cell? ⟨w.heap.size, 3, none⟩ = some (.int .i64 wt) := S4.b1.cell 3 (by simp); have r3 : w4.cell? ⟨w.heap.size, 4, none⟩ = some (.slice a m c) := S4.b1.cell 4 (by simp); have z1 := S4.b1.lt.2; have z2 := S4.b2.lt.2)
  refine (join_any S4.row (by simp) ?_ (by simp)).mono ?_
  · intro x hx
    simp only [List.mem_append, List.mem_cons, List.not_mem_nil, or_false] at hx
    rcases hx with (rfl | rfl) | rfl
    · decide
    · have hx : (Lib.itoa n).length ≤ 20 := itoa_len HI.out.n
      omega
    · have hx : (waitT wt).length ≤ 20 := waitT_len HI.out.wait
      omega
  rintro e wL ⟨rfl, tL⟩
  go_wp2_with fail
  go_ret
  exact ⟨rfl, S4.kept.trans tL⟩
set_option maxHeartbeats 2000000 in
theorem optext_k6 (n v wt : Int) (a : Option Addr) (m c : Nat) (l : List CaseD) (w : World) (hr : Rdy w) (hA : AtC w a m l) (_ : m ≤ 20) (hp : True) (hi : In64 ⟨6, n, v, wt, l⟩) :
    Calls Tryz.prog 22 #[.agg #[.int .i64 6, .int .i64 n, .int .i64 v, .int .i64 wt, .slice a m c]] w fun e w' => e = .returned (.string (B (textD ⟨6, n, v, wt, l⟩))) ∧ Kept w w' := by
  have hk := isKind_any 6
  rw [show isKindB 6 = true from rfl] at hk
  obtain ⟨g0, g1, g2, g3, g4, g5, g6⟩ := hr.k6
  have hlt := hr.lt
  have HR : Hid (Rdy w) := hr
  have HA : Hid (AtC w a m l) := hA
  have HI : Hid (In64 ⟨6, n, v, wt, l⟩) := hi
  have HP : Hid (True) := hp
  clear hr hA hi hp
  have S0 := txt_start w [.int .i64 6, .int .i64 n, .int .i64 v, .int .i64 wt, .slice a m c] [.string (B [99, 108, 111, 115, 101]), .bool true, .bool false, .bool false, .bool false, .int .i64 0, .int .i64 7] [99, 108, 111, 115, 101] (by simp) (by simp)
  go_enter Tryz.func22, Tryz.ntmps22
  go_wp2_with fail
  refine (hk _).mono ?_
  rintro e w1 ⟨rfl, hw⟩
  subst w1
  go_wp2_with fail
  refine (text_any n HI.out.n.1 HI.out.n.2 _ (HR.out.kept S0.kept)).mono ?_
  rintro e w1 ⟨rfl, t1⟩
  have S1 := S0.call t1
  have q0 : w1.cell? ⟨w.heap.size + 1, 1, none⟩ = some (.bool true) := S1.b2.cell 1 (by simp)
  have q1 : w1.cell? ⟨w.heap.size + 1, 2, none⟩ = some (.bool false) := S1.b2.cell 2 (by simp)
  have q2 : w1.cell? ⟨w.heap.size + 1, 3, none⟩ = some (.bool false) := S1.b2.cell 3 (by simp)
  have q3 : w1.cell? ⟨w.heap.size + 1, 4, none⟩ = some (.bool false) := S1.b2.cell 4 (by simp)
  have r0 : w1.cell? ⟨w.heap.size, 1, none⟩ = some (.int .i64 n) := S1.b1.cell 1 (by simp)
  have r1 : w1.cell? ⟨w.heap.size, 2, none⟩ = some (.int .i64 v) := S1.b1.cell 2 (by simp)
  have r2 : w1.cell? ⟨w.heap.size, 3, none⟩ = some (.int .i64 wt) := S1.b1.cell 3 (by simp)
  have r3 : w1.cell? ⟨w.heap.size, 4, none⟩ = some (.slice a m c) := S1.b1.cell 4 (by simp)
  have z1 := S1.b1.lt.2
  have z2 := S1.b2.lt.2
  have hB1 := S1.kept.size
  go_wp2_with (at_builtin; refine wpList_append_strs _ (by rfl) _ _ rfl w.heap.size (.slice (some ⟨w.heap.size + 1 + 1, 0, none⟩) 1 1) [[99, 108, 111, 115, 101]] [Lib.itoa n] w1.heap.size 0 1 (by rfl) (by rfl) (S1.row.kept ((Kept.refl _).alloc _)) (lit_strs w1 [Lib.itoa n] _ rfl) (by simp) (by simp) (le_alloc _ hB1) ?_; intro g2x c2x w2 i2 t2 f2; have S2 := S1.app ((Kept.refl _).alloc _) t2 f2 i2; clear q0 q1 q2 q3 r0 r1 r2 r3 z1 z2; have q0 : w2.cell? ⟨w.heap.size + 1, 1, none⟩ = some (.bool true) := S2.b2.cell 1 (by simp); have q1 : w2.cell? ⟨w.heap.size + 1, 2, none⟩ = some (.bool false) := S2.b2.cell 2 (by simp); have q2 : w2.cell? ⟨w.heap.size + 1, 3, none⟩ = some (.bool false) := S2.b2.cell 3 (by simp); have q3 : w2.cell? ⟨w.heap.size + 1, 4, none⟩ = some (.bool false) := S2.b2.cell 4 (by simp); have r0 : w2.cell? ⟨w.heap.size, 1, none⟩ = some (.int .i64 n) := S2.b1.cell 1 (by simp); have r1 : w2.cell? ⟨w.heap.size, 2, none⟩ = some (.int .i64 v) := S2.b1.cell 2 (by simp); have r2 : w2.cell? ⟨w.heap.size, 3, none⟩ = some (.int .i64 wt) := S2.b1.cell 3 (by simp); have r3 : w2.cell? ⟨w.heap.size, 4, none⟩ = some (.slice a m c) := S2.b1.cell 4 (by simp); have z1 := S2.b1.lt.2; have z2 := S2.b2.lt.2)
  refine (join_any S2.row (by simp) ?_ (by simp)).mono ?_
  · intro x hx
    simp only [List.mem_append, List.mem_cons, List.not_mem_nil, or_false] at hx
    rcases hx with rfl | rfl
    · decide
    · have hx : (Lib.itoa n).length ≤ 20 := itoa_len HI.out.n
      omega
  rintro e wL ⟨rfl, tL⟩
  go_wp2_with fail
  go_ret
  exact ⟨rfl, S2.kept.trans tL⟩
set_option maxHeartbeats 2000000 in
theorem optext_k7 (n v wt : Int) (a : Option Addr) (m c : Nat) (l : List CaseD) (w : World) (hr : Rdy w) (hA : AtC w a m l) (hm : m ≤ 20) (hp : 0 < l.length) (hi : In64 ⟨7, n, v, wt, l⟩) :
    Calls Tryz.prog 22 #[.agg #[.int .i64 7, .int .i64 n, .int .i64 v, .int .i64 wt, .slice a m c]] w fun e w' => e = .returned (.string (B (textD ⟨7, n, v, wt, l⟩))) ∧ Kept w w' := by
  have hk := isKind_any 7
  rw [show isKindB 7 = true from rfl] at hk
  obtain ⟨g0, g1, g2, g3, g4, g5, g6⟩ := hr.k7
  have hlt := hr.lt
  have HR : Hid (Rdy w) := hr
  have HA : Hid (AtC w a m l) := hA
  have HI : Hid (In64 ⟨7, n, v, wt, l⟩) := hi
  have HP : Hid (0 < l.length) := hp
  clear hr hA hi hp
  have S0 := txt_start w [.int .i64 7, .int .i64 n, .int .i64 v, .int .i64 wt, .slice a m c] [.string (B [115, 101, 108, 101, 99, 116]), .bool false, .bool false, .bool true, .bool true, .int .i64 0, .int .i64 0] [115, 101, 108, 101, 99, 116] (by simp) (by simp)
  go_enter Tryz.func22, Tryz.ntmps22
  go_wp2_with fail
  refine (hk _).mono ?_
  rintro e w1 ⟨rfl, hw⟩
  subst w1
  go_wp2_with fail
  refine (waitText_any wt HI.out.wait _ (HR.out.kept S0.kept)).mono ?_
  rintro e w1 ⟨rfl, t1⟩
  have S1 := S0.call t1
  have q0 : w1.cell? ⟨w.heap.size + 1, 1, none⟩ = some (.bool false) := S1.b2.cell 1 (by simp)
  have q1 : w1.cell? ⟨w.heap.size + 1, 2, none⟩ = some (.bool false) := S1.b2.cell 2 (by simp)
  have q2 : w1.cell? ⟨w.heap.size + 1, 3, none⟩ = some (.bool true) := S1.b2.cell 3 (by simp)
  have q3 : w1.cell? ⟨w.heap.size + 1, 4, none⟩ = some (.bool true) := S1.b2.cell 4 (by simp)
  have r0 : w1.cell? ⟨w.heap.size, 1, none⟩ = some (.int .i64 n) := S1.b1.cell 1 (by simp)
  have r1 : w1.cell? ⟨w.heap.size, 2, none⟩ = some (.int .i64 v) := S1.b1.cell 2 (by simp)
  have r2 : w1.cell? ⟨w.heap.size, 3, none⟩ = some (.int .i64 wt) := S1.b1.cell 3 (by simp)
  have r3 : w1.cell? ⟨w.heap.size, 4, none⟩ = some (.slice a m c) := S1.b1.cell 4 (by simp)
  have z1 := S1.b1.lt.2
  have z2 := S1.b2.lt.2
  have hB1 := S1.kept.size
  go_wp2_with (at_builtin; refine wpList_append_strs _ (by rfl) _ _ rfl w.heap.size (.slice (some ⟨w.heap.size + 1 + 1, 0, none⟩) 1 1) [[115, 101, 108, 101, 99, 116]] [waitT wt] w1.heap.size 0 1 (by rfl) (by rfl) (S1.row.kept ((Kept.refl _).alloc _)) (lit_strs w1 [waitT wt] _ rfl) (by simp) (by simp) (le_alloc _ hB1) ?_; intro g2x c2x w2 i2 t2 f2; have S2 := S1.app ((Kept.refl _).alloc _) t2 f2 i2; clear q0 q1 q2 q3 r0 r1 r2 r3 z1 z2; have q0 : w2.cell? ⟨w.heap.size + 1, 1, none⟩ = some (.bool false) := S2.b2.cell 1 (by simp); have q1 : w2.cell? ⟨w.heap.size + 1, 2, none⟩ = some (.bool false) := S2.b2.cell 2 (by simp); have q2 : w2.cell? ⟨w.heap.size + 1, 3, none⟩ = some (.bool true) := S2.b2.cell 3 (by simp); have q3 : w2.cell? ⟨w.heap.size + 1, 4, none⟩ = some (.bool true) := S2.b2.cell 4 (by simp); have r0 : w2.cell? ⟨w.heap.size, 1, none⟩ = some (.int .i64 n) := S2.b1.cell 1 (by simp); have r1 : w2.cell? ⟨w.heap.size, 2, none⟩ = some (.int .i64 v) := S2.b1.cell 2 (by simp); have r2 : w2.cell? ⟨w.heap.size, 3, none⟩ = some (.int .i64 wt) := S2.b1.cell 3 (by simp); have r3 : w2.cell? ⟨w.heap.size, 4, none⟩ = some (.slice a m c) := S2.b1.cell 4 (by simp); have z1 := S2.b1.lt.2; have z2 := S2.b2.lt.2)
  refine (caseWords_any a m c l _ (HR.out.kept S2.kept) (HA.out.kept S2.kept) hm HI.out.cases).mono ?_
  rintro e w3 ⟨vq, rfl, Rq, t3⟩
  have S3 := S2.call t3
  clear q0 q1 q2 q3 r0 r1 r2 r3 z1 z2
  have hq1 := cases_pos HP.out
  have hq2 := words_len l
  have hq3 := cases_len l HI.out.cases
  have hq4 : l.length ≤ 20 := by rw [HA.out.1]; exact hm
  obtain ⟨gq, cq, rfl, aq, bq⟩ := Rq.some hq1
  have HT : Hid (textD ⟨7, n, v, wt, l⟩ = joinW (([[115, 101, 108, 101, 99, 116]] ++ [waitT wt]) ++ l.flatMap caseW)) := rfl
  generalize l.flatMap caseW = ws at *
  have q0 : w3.cell? ⟨w.heap.size + 1, 1, none⟩ = some (.bool false) := S3.b2.cell 1 (by simp)
  have q1 : w3.cell? ⟨w.heap.size + 1, 2, none⟩ = some (.bool false) := S3.b2.cell 2 (by simp)
  have q2 : w3.cell? ⟨w.heap.size + 1, 3, none⟩ = some (.bool true) := S3.b2.cell 3 (by simp)
  have q3 : w3.cell? ⟨w.heap.size + 1, 4, none⟩ = some (.bool true) := S3.b2.cell 4 (by simp)
  have r0 : w3.cell? ⟨w.heap.size, 1, none⟩ = some (.int .i64 n) := S3.b1.cell 1 (by simp)
  have r1 : w3.cell? ⟨w.heap.size, 2, none⟩ = some (.int .i64 v) := S3.b1.cell 2 (by simp)
  have r2 : w3.cell? ⟨w.heap.size, 3, none⟩ = some (.int .i64 wt) := S3.b1.cell 3 (by simp)
  have r3 : w3.cell? ⟨w.heap.size, 4, none⟩ = some (.slice a m c) := S3.b1.cell 4 (by simp)
  have z1 := S3.b1.lt.2
  have z2 := S3.b2.lt.2
  have hB3 := S3.kept.size
  go_wp2_with (at_builtin; refine wpList_append_strs _ (by rfl) _ _ rfl w.heap.size (.slice (some ⟨g2x, 0, none⟩) 2 c2x) ([[115, 101, 108, 101, 99, 116]] ++ [waitT wt]) ws gq 0 cq (by rfl) (by rfl) S3.row aq hq1 (by simp; omega) hB3 ?_; intro g4x c4x w4 i4 t4 f4; have S4 := S3.app (Kept.refl _) t4 f4 i4)
  refine (join_any S4.row (by simp) ?_ (by simp; omega)).mono ?_
  · intro x hx
    simp only [List.mem_append, List.mem_cons, List.not_mem_nil, or_false] at hx
    rcases hx with (rfl | rfl) | hx
    · decide
    · have hx : (waitT wt).length ≤ 20 := waitT_len HI.out.wait
      omega
    · exact hq3 x hx
  rintro e wL ⟨rfl, tL⟩
  go_wp2_with fail
  go_ret
  rw [HT.out]
  exact ⟨rfl, S4.kept.trans tL⟩
set_option maxHeartbeats 2000000 in
theorem optext_k8 (n v wt : Int) (a : Option Addr) (m c : Nat) (l : List CaseD) (w : World) (hr : Rdy w) (hA : AtC w a m l) (_ : m ≤ 20) (hp : True) (hi : In64 ⟨8, n, v, wt, l⟩) :
    Calls Tryz.prog 22 #[.agg #[.int .i64 8, .int .i64 n, .int .i64 v, .int .i64 wt, .slice a m c]] w fun e w' => e = .returned (.string (B (textD ⟨8, n, v, wt, l⟩))) ∧ Kept w w' := by
  have hk := isKind_any 8
  rw [show isKindB 8 = true from rfl] at hk
  obtain ⟨g0, g1, g2, g3, g4, g5, g6⟩ := hr.k8
  have hlt := hr.lt
  have HR : Hid (Rdy w) := hr
  have HA : Hid (AtC w a m l) := hA
  have HI : Hid (In64 ⟨8, n, v, wt, l⟩) := hi
  have HP : Hid (True) := hp
  clear hr hA hi hp
  have S0 := txt_start w [.int .i64 8, .int .i64 n, .int .i64 v, .int .i64 wt, .slice a m c] [.string (B [108, 111, 111, 112]), .bool true, .bool false, .bool false, .bool false, .int .i64 1, .int .i64 32] [108, 111, 111, 112] (by simp) (by simp)
  go_enter Tryz.func22, Tryz.ntmps22
  go_wp2_with fail
  refine (hk _).mono ?_
  rintro e w1 ⟨rfl, hw⟩
  subst w1
  go_wp2_with fail
  refine (text_any n HI.out.n.1 HI.out.n.2 _ (HR.out.kept S0.kept)).mono ?_
  rintro e w1 ⟨rfl, t1⟩
  have S1 := S0.call t1
  have q0 : w1.cell? ⟨w.heap.size + 1, 1, none⟩ = some (.bool true) := S1.b2.cell 1 (by simp)
  have q1 : w1.cell? ⟨w.heap.size + 1, 2, none⟩ = some (.bool false) := S1.b2.cell 2 (by simp)
  have q2 : w1.cell? ⟨w.heap.size + 1, 3, none⟩ = some (.bool false) := S1.b2.cell 3 (by simp)
  have q3 : w1.cell? ⟨w.heap.size + 1, 4, none⟩ = some (.bool false) := S1.b2.cell 4 (by simp)
  have r0 : w1.cell? ⟨w.heap.size, 1, none⟩ = some (.int .i64 n) := S1.b1.cell 1 (by simp)
  have r1 : w1.cell? ⟨w.heap.size, 2, none⟩ = some (.int .i64 v) := S1.b1.cell 2 (by simp)
  have r2 : w1.cell? ⟨w.heap.size, 3, none⟩ = some (.int .i64 wt) := S1.b1.cell 3 (by simp)
  have r3 : w1.cell? ⟨w.heap.size, 4, none⟩ = some (.slice a m c) := S1.b1.cell 4 (by simp)
  have z1 := S1.b1.lt.2
  have z2 := S1.b2.lt.2
  have hB1 := S1.kept.size
  go_wp2_with (at_builtin; refine wpList_append_strs _ (by rfl) _ _ rfl w.heap.size (.slice (some ⟨w.heap.size + 1 + 1, 0, none⟩) 1 1) [[108, 111, 111, 112]] [Lib.itoa n] w1.heap.size 0 1 (by rfl) (by rfl) (S1.row.kept ((Kept.refl _).alloc _)) (lit_strs w1 [Lib.itoa n] _ rfl) (by simp) (by simp) (le_alloc _ hB1) ?_; intro g2x c2x w2 i2 t2 f2; have S2 := S1.app ((Kept.refl _).alloc _) t2 f2 i2; clear q0 q1 q2 q3 r0 r1 r2 r3 z1 z2; have q0 : w2.cell? ⟨w.heap.size + 1, 1, none⟩ = some (.bool true) := S2.b2.cell 1 (by simp); have q1 : w2.cell? ⟨w.heap.size + 1, 2, none⟩ = some (.bool false) := S2.b2.cell 2 (by simp); have q2 : w2.cell? ⟨w.heap.size + 1, 3, none⟩ = some (.bool false) := S2.b2.cell 3 (by simp); have q3 : w2.cell? ⟨w.heap.size + 1, 4, none⟩ = some (.bool false) := S2.b2.cell 4 (by simp); have r0 : w2.cell? ⟨w.heap.size, 1, none⟩ = some (.int .i64 n) := S2.b1.cell 1 (by simp); have r1 : w2.cell? ⟨w.heap.size, 2, none⟩ = some (.int .i64 v) := S2.b1.cell 2 (by simp); have r2 : w2.cell? ⟨w.heap.size, 3, none⟩ = some (.int .i64 wt) := S2.b1.cell 3 (by simp); have r3 : w2.cell? ⟨w.heap.size, 4, none⟩ = some (.slice a m c) := S2.b1.cell 4 (by simp); have z1 := S2.b1.lt.2; have z2 := S2.b2.lt.2)
  refine (join_any S2.row (by simp) ?_ (by simp)).mono ?_
  · intro x hx
    simp only [List.mem_append, List.mem_cons, List.not_mem_nil, or_false] at hx
    rcases hx with rfl | rfl
    · decide
    · have hx : (Lib.itoa n).length ≤ 20 := itoa_len HI.out.n
      omega
  rintro e wL ⟨rfl, tL⟩
  go_wp2_with fail
  go_ret
  exact ⟨rfl, S2.kept.trans tL⟩
set_option maxHeartbeats 2000000 in
theorem optext_k9 (n v wt : Int) (a : Option Addr) (m c : Nat) (l : List CaseD) (w : World) (hr : Rdy w) (hA : AtC w a m l) (_ : m ≤ 20) (hp : True) (hi : In64 ⟨9, n, v, wt, l⟩) :
    Calls Tryz.prog 22 #[.agg #[.int .i64 9, .int .i64 n, .int .i64 v, .int .i64 wt, .slice a m c]] w fun e w' => e = .returned (.string (B (textD ⟨9, n, v, wt, l⟩))) ∧ Kept w w' := by
  have hk := isKind_any 9
  rw [show isKindB 9 = true from rfl] at hk
  obtain ⟨g0, g1, g2, g3, g4, g5, g6⟩ := hr.k9
  have hlt := hr.lt
  have HR : Hid (Rdy w) := hr
  have HA : Hid (AtC w a m l) := hA
  have HI : Hid (In64 ⟨9, n, v, wt, l⟩) := hi
  have HP : Hid (True) := hp
  clear hr hA hi hp
  have S0 := txt_start w [.int .i64 9, .int .i64 n, .int .i64 v, .int .i64 wt, .slice a m c] [.string (B [101, 110, 100]), .bool false, .bool false, .bool false, .bool false, .int .i64 0, .int .i64 0] [101, 110, 100] (by simp) (by simp)
  go_enter Tryz.func22, Tryz.ntmps22
  go_wp2_with fail
  refine (hk _).mono ?_
  rintro e w1 ⟨rfl, hw⟩
  subst w1
  go_wp2_with fail
  refine (join_any S0.row (by simp) ?_ (by simp)).mono ?_
  · intro x hx
    rw [List.mem_singleton.1 hx]
    decide
  rintro e wL ⟨rfl, tL⟩
  go_wp2_with fail
  go_ret
  exact ⟨rfl, S0.kept.trans tL⟩

theorem optext_any (k n v wt : Int) (a : Option Addr) (m c : Nat) (l : List CaseD) (w : World) (hr : Rdy w) (hA : AtC w a m l) (hm : m ≤ 20) (hc : checkD ⟨k, n, v, wt, l⟩ = 0) (hi : In64 ⟨k, n, v, wt, l⟩) :
    Calls Tryz.prog 22 #[.agg #[.int .i64 k, .int .i64 n, .int .i64 v, .int .i64 wt, .slice a m c]] w fun e w' => e = .returned (.string (B (textD ⟨k, n, v, wt, l⟩))) ∧ Kept w w' := by
  have ht := taken_of hc
  rcases kind_cases ht.kind with h | h | h | h | h | h | h | h | h <;> simp only at h <;> subst h
  · exact optext_k1 n v wt a m c l w hr hA hm trivial hi
  · exact optext_k2 n v wt a m c l w hr hA hm trivial hi
  · exact optext_k3 n v wt a m c l w hr hA hm trivial hi
  · exact optext_k4 n v wt a m c l w hr hA hm trivial hi
  · exact optext_k5 n v wt a m c l w hr hA hm trivial hi
  · exact optext_k6 n v wt a m c l w hr hA hm trivial hi
  · refine optext_k7 n v wt a m c l w hr hA hm ?_ hi
    rcases Nat.eq_zero_or_pos l.length with h0 | h0
    · rw [check_many rfl ht.takes rfl (.inl h0)] at hc
      cases hc
    · exact h0
  · exact optext_k8 n v wt a m c l w hr hA hm trivial hi
  · exact optext_k9 n v wt a m c l w hr hA hm trivial hi
end Go.Proofs.YtolljdomnohmdabGreatDoor
