/- To, of the law's package. -/
import Derived.Test.YtlkbphogpbcjfaaGreatDoorCaA
import Derived.Test.YtlkbphogpbcjfaaGreatDoorHld
namespace Go.Proofs.YtlkbphogpbcjfaaGreatDoor
open Go.RowKit

/-- What append has left of the call's own things. -/
structure App3 (w wr w3 : World) (oi oo : TypeId) (c1 c3 : List Value) (g : Nat) : Prop where
  b1 : Box w.heap.size w3 oi w.heap.size c1
  b2 : Box w.heap.size w3 oo (w.heap.size + 1) [.int .i64 0, .int .i64 0, .int .i64 0, .int .i64 0, .slice none 0 0]
  b3 : Box w.heap.size w3 oo (w.heap.size + 1 + 1) c3
  far : w.heap.size + 3 ≤ g
  kept : Kept w w3
  size : wr.heap.size ≤ w3.heap.size
theorem App3.c1 {w wr w3 : World} {oi oo : TypeId} {k n v wt s : Value} {c3 : List Value} {g : Nat} (h : App3 w wr w3 oi oo [k, n, v, wt, s] c3 g) : w3.cell? ⟨w.heap.size, 4, none⟩ = some s := h.b1.cell 4 (by simp)
theorem App3.c3 {w wr w3 : World} {oi oo : TypeId} {k n v wt s : Value} {c1 : List Value} {g : Nat} (h : App3 w wr w3 oi oo c1 [k, n, v, wt, s] g) : w3.cell? ⟨w.heap.size + 1 + 1, 4, none⟩ = some s := h.b3.cell 4 (by simp)
theorem App3.fr {w wr w3 : World} {oi oo : TypeId} {c1 c3 : List Value} {g : Nat} (h : App3 w wr w3 oi oo c1 c3 g) : w3.frozen? ⟨w.heap.size + 1 + 1, 4, none⟩ = false := h.b3.frozen 4
theorem App3.of {w wr wa w3 : World} {e oi oo : TypeId} {c1 c3 : List Value} {g : Nat} {sv : Value}  {cs : Array Value}
    (ha : wa = wr.drew.alloc (.cells cs e)) (gr : wa.grownBy w3 sv.ownBlock) (at3 : sv.ownBlock = some g ∨ wr.drew.heap.size < g) (hs : ∀ b, sv.ownBlock = some b → w.heap.size + 3 ≤ b)
    (B1 : Box w.heap.size wr oi w.heap.size c1) (B2 : Box w.heap.size wr oo (w.heap.size + 1) [.int .i64 0, .int .i64 0, .int .i64 0, .int .i64 0, .slice none 0 0]) (B3 : Box w.heap.size wr oo (w.heap.size + 1 + 1) c3) (T : Kept w wr) :
    App3 w wr w3 oi oo c1 c3 g := by
  subst ha
  have t1 : Turns (fun k => sv.ownBlock = some k) wr w3 := (((Turns.refl _ wr).drew).alloc (.cells cs e)).trans (Turns.grown gr (fun k e => e))
  have l3 := B3.lt.2
  refine ⟨B1.turns t1 (fun h => by have := hs _ h; omega), B2.turns t1 (fun h => by have := hs _ h; omega), B3.turns t1 (fun h => by have := hs _ h; omega), ?_, t1.kept T (fun i hi => by have := hs i hi; omega), t1.size⟩
  rcases at3 with h | h
  · exact hs g h
  · have : wr.drew.heap.size = wr.heap.size := rfl
    omega

set_option maxHeartbeats 4000000 in
set_option maxRecDepth 10000 in
theorem to_any (k n v wt : Int) (a : Option Addr) (m c : Nat) (l : List CaseD) (w : World) (hA : AtC w a m l) (hm : m ≤ 1000000) :
    Calls Tryz.prog 36 #[.agg #[.int .i64 k, .int .i64 n, .int .i64 v, .int .i64 wt, .slice a m c]] w fun e w' => ∃ sv, e = .returned (.agg #[.int .i64 k, .int .i64 n, .int .i64 v, .int .i64 wt, sv]) ∧ CRow 108 w.heap.size w' sv l ∧ Kept w w' := by
  have HA : Hid (AtC w a m l) := hA
  have HL : Hid (l.length = m) := hA.1
  clear hA
  go_enter Tryz.func36, Tryz.ntmps36
  go_wp2_with fail
  go_loopg [4] m (fun gk i wr => ∃ (j : Nat) (sv : Value), i = .int .i64 j ∧ j + gk = m ∧ Box w.heap.size wr 83 w.heap.size [.int .i64 k, .int .i64 n, .int .i64 v, .int .i64 wt, .slice a m c] ∧ Box w.heap.size wr 77 (w.heap.size + 1) [.int .i64 0, .int .i64 0, .int .i64 0, .int .i64 0, .slice none 0 0] ∧ Box w.heap.size wr 77 (w.heap.size + 1 + 1) [.int .i64 k, .int .i64 n, .int .i64 v, .int .i64 wt, sv] ∧ CRow 108 w.heap.size wr sv (l.take j) ∧ Hid (∀ b, sv.ownBlock = some b → w.heap.size + 3 ≤ b) ∧ Kept w wr)
  case atStart =>
    have hb := boxes3 w 83 77 77 [.int .i64 k, .int .i64 n, .int .i64 v, .int .i64 wt, .slice a m c] [.int .i64 0, .int .i64 0, .int .i64 0, .int .i64 0, .slice none 0 0] [.int .i64 k, .int .i64 n, .int .i64 v, .int .i64 wt, .slice none 0 0] (by simp) (by simp) (by simp)
    exact ⟨0, .slice none 0 0, rfl, by omega, hb.1, hb.2.1, hb.2.2.1, CRow.nil _ _ _, (fun b hb => by simp [Value.ownBlock] at hb), hb.2.2.2⟩
  case round =>
    obtain ⟨j, sv, rfl, hj, B1, B2, B3, R, HS, T⟩ := hrel
    have c1 : wr.cell? ⟨w.heap.size, 4, none⟩ = some (.slice a m c) := B1.cell 4 (by simp)
    have l1 := B1.lt.2
    by_cases hjm : j < m
    · obtain ⟨b, f, sd, ch, x, rfl, g0, g1, g2, hb, e1, e2, e3⟩ := (HA.out.kept T).get j hjm
      obtain ⟨g0w, g1w, g2w⟩ : w.cell? ⟨b, f + j * 3, none⟩ = some (.bool sd) ∧ w.cell? ⟨b, f + j * 3 + 1, none⟩ = some (.int .i64 ch) ∧ w.cell? ⟨b, f + j * 3 + 2, none⟩ = some (.int .i64 x) := by
        obtain ⟨b', f', sd', ch', x', hab, g0', g1', g2', hb', e1', _⟩ := HA.out.get j hjm
        cases hab
        rw [e1] at e1'
        cases e1'
        exact ⟨g0', g1', g2'⟩
      have hbw : b < w.heap.size := cell_lt g0w
      have b1 : (j : Int) < (m : Int) := by omega
      have b2 : (0 : Int) ≤ (j : Int) := by omega
      have c3 : wr.cell? ⟨w.heap.size + 1 + 1, 4, none⟩ = some sv := B3.cell 4 (by simp)
      have l3 := B3.lt.2
      have HT : Hid (l.take (j + 1) = l.take j ++ [⟨sd, ch, x⟩]) := e2
      have hlt : (l.take j).length ≤ 1000000 := by rw [List.length_take]; omega
      clear e1 e2 e3
      obtain ⟨g3, rfl⟩ : ∃ g, gk = g + 1 := ⟨gk - 1, by omega⟩
      have Rd := R.kept ((Kept.refl wr).drew)
      have hBd : w.heap.size ≤ wr.drew.heap.size := T.size
      have n1 : w.heap.size + 1 + 1 ≠ b := by omega
      have hmin : min j l.length = j := by rw [HL.out]; omega
      have n2 : w.heap.size + 1 + 1 ≠ w.heap.size := by omega
      go_wp2_with fail
      refine wp_region_S (by kernel_rfl) 24 (fun w' => w'.cell? ⟨w.heap.size, 4, none⟩ = some (.slice (some ⟨b, f, none⟩) m c) ∧ w'.cell? ⟨b, f + j * 3, none⟩ = some (.bool sd) ∧ w'.cell? ⟨b, f + j * 3 + 1, none⟩ = some (.int .i64 ch) ∧ w'.cell? ⟨b, f + j * 3 + 2, none⟩ = some (.int .i64 x) ∧ w'.cell? ⟨w.heap.size + 1 + 1, 4, none⟩ = some sv) ?_
      have hS0 : wr.drew.cell? ⟨w.heap.size, 4, none⟩ = some (.slice (some ⟨b, f, none⟩) m c) ∧ wr.drew.cell? ⟨b, f + j * 3, none⟩ = some (.bool sd) ∧ wr.drew.cell? ⟨b, f + j * 3 + 1, none⟩ = some (.int .i64 ch) ∧ wr.drew.cell? ⟨b, f + j * 3 + 2, none⟩ = some (.int .i64 x) ∧ wr.drew.cell? ⟨w.heap.size + 1 + 1, 4, none⟩ = some sv := ⟨c1, g0, g1, g2, c3⟩
      refine wpAnyS_take (i := 0) (v := .pointer (some ⟨w.heap.size + 1 + 1, 4, none⟩)) rfl (by kernel_rfl) (by kernel_rfl) (by kernel_rfl) (by kernel_rfl) (fun _ _ _ h => h) hS0 rfl (fun wx hx => by obtain ⟨s1, s2, s3, s4, s5⟩ := hx; go_simp) ?_
      refine wpAnyS_take (i := 1) (v := sv) rfl (by kernel_rfl) (by kernel_rfl) (by kernel_rfl) (by kernel_rfl) (fun _ _ _ h => h) hS0 rfl (fun wx hx => by obtain ⟨s1, s2, s3, s4, s5⟩ := hx; go_simp) ?_
      refine wpAnyS_take (i := 2) (v := .pointer (some ⟨w.heap.size, 4, none⟩)) rfl (by kernel_rfl) (by kernel_rfl) (by kernel_rfl) (by kernel_rfl) (fun _ _ _ h => h) hS0 rfl (fun wx hx => by obtain ⟨s1, s2, s3, s4, s5⟩ := hx; go_simp) ?_
      refine wpAnyS_take (i := 3) (v := .slice (some ⟨b, f, none⟩) m c) rfl (by kernel_rfl) (by kernel_rfl) (by kernel_rfl) (by kernel_rfl) (fun _ _ _ h => h) hS0 rfl (fun wx hx => by obtain ⟨s1, s2, s3, s4, s5⟩ := hx; go_simp) ?_
      refine wpAnyS_take (i := 4) (v := .int .i64 j) rfl (by kernel_rfl) (by kernel_rfl) (by kernel_rfl) (by kernel_rfl) (fun _ _ _ h => h) hS0 rfl (fun wx hx => by obtain ⟨s1, s2, s3, s4, s5⟩ := hx; go_simp) ?_
      refine wpAnyS_take (i := 5) (v := .pointer (some ⟨b, f + j * 3, none⟩)) rfl (by kernel_rfl) (by kernel_rfl) (by kernel_rfl) (by kernel_rfl) (fun _ _ _ h => h) hS0 rfl (fun wx hx => by obtain ⟨s1, s2, s3, s4, s5⟩ := hx; go_simp) ?_
      refine wpAnyS_take (i := 6) (v := .pointer (some ⟨b, f + j * 3, none⟩)) rfl (by kernel_rfl) (by kernel_rfl) (by kernel_rfl) (by kernel_rfl) (fun _ _ _ h => h) hS0 rfl (fun wx hx => by obtain ⟨s1, s2, s3, s4, s5⟩ := hx; go_simp) ?_
      refine wpAnyS_take (i := 7) (v := .bool sd) rfl (by kernel_rfl) (by kernel_rfl) (by kernel_rfl) (by kernel_rfl) (fun _ _ _ h => h) hS0 rfl (fun wx hx => by obtain ⟨s1, s2, s3, s4, s5⟩ := hx; go_simp) ?_
      refine wpAnyS_take (i := 8) (v := .pointer (some ⟨w.heap.size, 4, none⟩)) rfl (by kernel_rfl) (by kernel_rfl) (by kernel_rfl) (by kernel_rfl) (fun _ _ _ h => h) hS0 rfl (fun wx hx => by obtain ⟨s1, s2, s3, s4, s5⟩ := hx; go_simp) ?_
      refine wpAnyS_take (i := 9) (v := .slice (some ⟨b, f, none⟩) m c) rfl (by kernel_rfl) (by kernel_rfl) (by kernel_rfl) (by kernel_rfl) (fun _ _ _ h => h) hS0 rfl (fun wx hx => by obtain ⟨s1, s2, s3, s4, s5⟩ := hx; go_simp) ?_
      refine wpAnyS_take (i := 10) (v := .int .i64 j) rfl (by kernel_rfl) (by kernel_rfl) (by kernel_rfl) (by kernel_rfl) (fun _ _ _ h => h) hS0 rfl (fun wx hx => by obtain ⟨s1, s2, s3, s4, s5⟩ := hx; go_simp) ?_
      refine wpAnyS_take (i := 11) (v := .pointer (some ⟨b, f + j * 3, none⟩)) rfl (by kernel_rfl) (by kernel_rfl) (by kernel_rfl) (by kernel_rfl) (fun _ _ _ h => h) hS0 rfl (fun wx hx => by obtain ⟨s1, s2, s3, s4, s5⟩ := hx; go_simp) ?_
      refine wpAnyS_take (i := 12) (v := .pointer (some ⟨b, f + j * 3 + 1, none⟩)) rfl (by kernel_rfl) (by kernel_rfl) (by kernel_rfl) (by kernel_rfl) (fun _ _ _ h => h) hS0 rfl (fun wx hx => by obtain ⟨s1, s2, s3, s4, s5⟩ := hx; go_simp) ?_
      refine wpAnyS_take (i := 13) (v := .int .i64 ch) rfl (by kernel_rfl) (by kernel_rfl) (by kernel_rfl) (by kernel_rfl) (fun _ _ _ h => h) hS0 rfl (fun wx hx => by obtain ⟨s1, s2, s3, s4, s5⟩ := hx; go_simp) ?_
      refine wpAnyS_take (i := 14) (v := .pointer (some ⟨w.heap.size, 4, none⟩)) rfl (by kernel_rfl) (by kernel_rfl) (by kernel_rfl) (by kernel_rfl) (fun _ _ _ h => h) hS0 rfl (fun wx hx => by obtain ⟨s1, s2, s3, s4, s5⟩ := hx; go_simp) ?_
      refine wpAnyS_take (i := 15) (v := .slice (some ⟨b, f, none⟩) m c) rfl (by kernel_rfl) (by kernel_rfl) (by kernel_rfl) (by kernel_rfl) (fun _ _ _ h => h) hS0 rfl (fun wx hx => by obtain ⟨s1, s2, s3, s4, s5⟩ := hx; go_simp) ?_
      refine wpAnyS_take (i := 16) (v := .int .i64 j) rfl (by kernel_rfl) (by kernel_rfl) (by kernel_rfl) (by kernel_rfl) (fun _ _ _ h => h) hS0 rfl (fun wx hx => by obtain ⟨s1, s2, s3, s4, s5⟩ := hx; go_simp) ?_
      refine wpAnyS_take (i := 17) (v := .pointer (some ⟨b, f + j * 3, none⟩)) rfl (by kernel_rfl) (by kernel_rfl) (by kernel_rfl) (by kernel_rfl) (fun _ _ _ h => h) hS0 rfl (fun wx hx => by obtain ⟨s1, s2, s3, s4, s5⟩ := hx; go_simp) ?_
      refine wpAnyS_take (i := 18) (v := .pointer (some ⟨b, f + j * 3 + 2, none⟩)) rfl (by kernel_rfl) (by kernel_rfl) (by kernel_rfl) (by kernel_rfl) (fun _ _ _ h => h) hS0 rfl (fun wx hx => by obtain ⟨s1, s2, s3, s4, s5⟩ := hx; go_simp) ?_
      refine wpAnyS_take (i := 19) (v := .int .i64 x) rfl (by kernel_rfl) (by kernel_rfl) (by kernel_rfl) (by kernel_rfl) (fun _ _ _ h => h) hS0 rfl (fun wx hx => by obtain ⟨s1, s2, s3, s4, s5⟩ := hx; go_simp) ?_
      refine wpAnyS_take (i := 20) (v := .agg #[.bool sd, .int .i64 ch, .int .i64 x]) rfl (by kernel_rfl) (by kernel_rfl) (by kernel_rfl) (by kernel_rfl) (fun _ _ _ h => h) hS0 rfl (fun wx hx => by obtain ⟨s1, s2, s3, s4, s5⟩ := hx; go_simp) ?_
      refine wpAnyS_one (i := 21) rfl (by kernel_rfl) (fun K hK => ?_)
      go_simp
      have KA := ((Kept.refl wr).drew).alloc (.cells #[.bool sd, .int .i64 ch, .int .i64 x] 108)
      have hS1 := And.intro (KA.cell c1) (And.intro (KA.cell g0) (And.intro (KA.cell g1) (And.intro (KA.cell g2) (KA.cell c3))))
      refine hK _ _ (fun _ => hS1) ?_
      clear hK K
      refine wpAnyS_one (i := 22) rfl (by kernel_rfl) (fun K hK => ?_)
      refine step_append_case kP _ (by rfl) _ _ (by rfl) w.heap.size sv (l.take j) sd ch x wr.drew (by rfl) (by rfl) wr.drew.heap.size (by rfl) (by rfl) Rd hlt hBd ?_
      intro g cap w3 R3 gr3 at3
      have T3 := App3.of rfl gr3 at3 HS.out B1 B2 B3 T
      have hS2 := And.intro T3.c1 (And.intro (T3.kept.cell g0w) (And.intro (T3.kept.cell g1w) (And.intro (T3.kept.cell g2w) T3.c3)))
      refine hK _ _ (fun _ => hS2) ?_
      clear hK K
      refine wpAnyS_take (i := 23) (v := .pointer (some ⟨w.heap.size + 1 + 1, 4, none⟩)) rfl (by kernel_rfl) (by kernel_rfl) (by kernel_rfl) (by kernel_rfl) (fun _ _ _ h => h) hS2 rfl (fun wx hx => by obtain ⟨s1, s2, s3, s4, s5⟩ := hx; go_simp) ?_
      refine wpAnyS_one (i := 24) rfl (by kernel_rfl) (fun K hK => ?_)
      have z1 := T3.c3
      have z2 := T3.fr
      go_simp
      refine hK _ _ (fun h => absurd rfl h) ?_
      clear hK K
      refine wpAnyS_done (by kernel_rfl) ?_ _
      go_wp2_with fail
      go_roundg g3
      case rel =>
        have nv : Value.slice (some ⟨g, 0, none⟩) ((l.take j).length + 1) cap = .slice (some ⟨g, 0, none⟩) (j + 1) cap := by rw [List.length_take, hmin]
        have t5 := turn_set w3 (w.heap.size + 1 + 1) 4 (.slice (some ⟨g, 0, none⟩) (j + 1) cap)
        have fg := T3.far
        rw [nv, ← HT.out] at R3
        refine ⟨j + 1, .slice (some ⟨g, 0, none⟩) (j + 1) cap, by go_num, by omega, T3.b1.turns t5 (by omega), T3.b2.turns t5 (by omega), T3.b3.set 4 _, R3.turns t5 (fun q hq => by simp [Value.ownBlock] at hq; omega), (fun q hq => by simp [Value.ownBlock] at hq; omega), t5.kept T3.kept (fun i hi => by omega)⟩
      case measure => omega
    · have b1 : ¬ (j : Int) < (m : Int) := by omega
      obtain rfl : j = m := by omega
      obtain ⟨aX, cX, hX, _, _⟩ := R.at
      generalize (l.take j).length = nX at hX
      subst hX
      have d0 : wr.cell? ⟨w.heap.size + 1 + 1, 0, none⟩ = some (.int .i64 k) := B3.cell 0 (by simp)
      have d1 : wr.cell? ⟨w.heap.size + 1 + 1, 1, none⟩ = some (.int .i64 n) := B3.cell 1 (by simp)
      have d2 : wr.cell? ⟨w.heap.size + 1 + 1, 2, none⟩ = some (.int .i64 v) := B3.cell 2 (by simp)
      have d3 : wr.cell? ⟨w.heap.size + 1 + 1, 3, none⟩ = some (.int .i64 wt) := B3.cell 3 (by simp)
      have d4 : wr.cell? ⟨w.heap.size + 1 + 1, 4, none⟩ = some (.slice aX nX cX) := B3.cell 4 (by simp)
      have p0 : wr.cell? ⟨w.heap.size + 1, 0, none⟩ = some (.int .i64 0) := B2.cell 0 (by simp)
      have p1 : wr.cell? ⟨w.heap.size + 1, 1, none⟩ = some (.int .i64 0) := B2.cell 1 (by simp)
      have p2 : wr.cell? ⟨w.heap.size + 1, 2, none⟩ = some (.int .i64 0) := B2.cell 2 (by simp)
      have p3 : wr.cell? ⟨w.heap.size + 1, 3, none⟩ = some (.int .i64 0) := B2.cell 3 (by simp)
      have p4 : wr.cell? ⟨w.heap.size + 1, 4, none⟩ = some (.slice none 0 0) := B2.cell 4 (by simp)
      have f0 := B2.frozen 0
      have f1 := B2.frozen 1
      have f2 := B2.frozen 2
      have f3 := B2.frozen 3
      have f4 := B2.frozen 4
      go_wp2_with fail
      (try simp only [Exit.inBlock, Exit.then])
      have tf := turn_set5 wr (w.heap.size + 1) (.int .i64 k) (.int .i64 n) (.int .i64 v) (.int .i64 wt) (.slice aX nX cX)
      refine bodyPost_ret (v := .agg #[.int .i64 k, .int .i64 n, .int .i64 v, .int .i64 wt, .slice aX nX cX]) ?_ rfl ⟨_, rfl, ?_, tf.kept T (fun i hi => by omega)⟩
      · rw [results_cell10 rfl]
        go_simp
      · have := R.turns tf (fun q hq e => by have := HS.out q hq; omega)
        rw [List.take_of_length_le (by rw [HL.out]; omega)] at this
        exact this

end Go.Proofs.YtlkbphogpbcjfaaGreatDoor
