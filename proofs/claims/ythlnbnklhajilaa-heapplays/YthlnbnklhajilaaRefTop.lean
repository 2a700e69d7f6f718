/- Top of the reference's heap, by its contract. -/
import Derived.Test.YthlnbnklhajilaaRef
namespace Go.Proofs.Ythlnbnklhajilaa
open Go.RowKit Hp

set_option maxHeartbeats 1000000 in
theorem rtop_none {B : Nat} {w : World} {mb most : Nat} {lv : Value} (h : RP B w mb lv most []) :
    Calls Try.prog 19 #[.pointer (some ⟨mb, 0, none⟩)] w fun e w' => e = .returned (.tuple #[.int .i64 0, .bool false]) ∧ w' = w := by
  have hc1 := h.c1
  rcases h.form with ⟨rfl, _⟩ | ⟨g, cap, rfl, _, _⟩
  all_goals
    try simp only [List.length_nil] at hc1
    go_enter Try.func19, Try.ntmps19
    go_wp2_with fail
    go_ret2
    exact ⟨rfl, rfl⟩

/-- b is one of the first i, and none of them goes ahead of it. -/
def BestTo (l : List Ent) (i : Nat) (b : Ent) : Prop := (∃ j, j < i ∧ b = at' l j) ∧ ∀ j, j < i → ahd (at' l j) b = false

/-- A box that holds one entry. -/
def BoxIs (w : World) (g : Nat) (b : Ent) : Prop := w.ownsRow 0 65 3 (.slice (some ⟨g, 0, none⟩) 1 1) 1 (flat [b])

theorem BoxIs.get {w : World} {g : Nat} {b : Ent} (h : BoxIs w g b) : w.cell? ⟨g, 0, none⟩ = some (.int .i64 b.id) ∧ w.cell? ⟨g, 1, none⟩ = some (.int .i64 b.prio) ∧ w.cell? ⟨g, 2, none⟩ = some (.int .i64 b.seq) := by
  have := rown_get (row := [b]) h rfl 0 (by simp)
  simpa [at'] using this
theorem BoxIs.froz {w : World} {g : Nat} {b : Ent} (h : BoxIs w g b) (j : Nat) : w.frozen? ⟨g, j, none⟩ = false := World.ownsRow.frozenAt h j
theorem BoxIs.set {w : World} {g : Nat} {b : Ent} (h : BoxIs w g b) (x : Ent) : BoxIs (((w.setCell ⟨g, 0, none⟩ (.int .i64 x.id)).setCell ⟨g, 1, none⟩ (.int .i64 x.prio)).setCell ⟨g, 2, none⟩ (.int .i64 x.seq)) g x := by
  have := (((World.ownsRow.stored h 0 (.int .i64 x.id)).1.stored 1 (.int .i64 x.prio)).1.stored 2 (.int .i64 x.seq)).1
  simpa [flat, entV, BoxIs] using this
theorem BoxIs.turns {w w' : World} {g : Nat} {b : Ent} {S : Nat → Prop} (h : BoxIs w g b) (t : Turns S w w') (hS : ¬ S g) : BoxIs w' g b := owns_turns h t (fun k hk e => hS (by simp [Value.ownBlock] at hk; rw [hk]; exact e))
theorem box_new (w : World) (b : Ent) : BoxIs (w.alloc (.cells #[.int .i64 b.id, .int .i64 b.prio, .int .i64 b.seq] 65)) w.heap.size b :=
  World.ownsRow_lit w #[.int .i64 b.id, .int .i64 b.prio, .int .i64 b.seq] 1 (Nat.zero_le _) (by unfold maxLen; omega) rfl

set_option maxHeartbeats 2000000 in
theorem rtop_some {B : Nat} {w : World} {mb most : Nat} {lv : Value} {l : List Ent} (h : RP B w mb lv most l) (hn : 0 < l.length) :
    Calls Try.prog 19 #[.pointer (some ⟨mb, 0, none⟩)] w fun e w' => ∃ b, e = .returned (.tuple #[.int .i64 b.id, .bool true]) ∧ b ∈ l ∧ (∀ x, x ∈ l → ahd x b = false) ∧ Turns (fun _ => False) w w' := by
  have hc1 := h.c1
  have hlen := h.len
  rcases h.form with ⟨rfl, rfl⟩ | ⟨g, cap, rfl, _, _⟩
  · simp at hn
  · obtain ⟨g0, g1, g2⟩ := rown_get h.own rfl 0 hn
    have t0 : ((l.length : Int) == 0) = false := beq_eq_false_iff_ne.2 (by omega)
    have t1 : (0 : Int) < (l.length : Int) := by omega
    simp only [Nat.zero_mul, Nat.zero_add] at g0 g1 g2
    obtain ⟨b0, hb0⟩ : ∃ b, at' l 0 = b := ⟨_, rfl⟩
    rw [hb0] at g0 g1 g2
    have HB0 : Hid (at' l 0 = b0) := hb0
    clear hb0
    have hbn := box_new w b0
    have hown := h.own
    have hmb : mb < w.heap.size := (h.foot mb (.inl rfl)).2
    have hgl : g < w.heap.size := (hown.lt g rfl).2
    have T0 : Turns (fun _ => False) w (w.alloc (.cells #[.int .i64 b0.id, .int .i64 b0.prio, .int .i64 b0.seq] 65)) := (Turns.refl _ w).alloc _
    have HRC : Hid (∀ i, i < l.length → w.cell? ⟨g, i * 3, none⟩ = some (.int .i64 (at' l i).id) ∧ w.cell? ⟨g, i * 3 + 1, none⟩ = some (.int .i64 (at' l i).prio) ∧ w.cell? ⟨g, i * 3 + 2, none⟩ = some (.int .i64 (at' l i).seq)) := fun i hi => rown_get hown rfl i hi
    clear hown h
    go_enter Try.func19, Try.ntmps19
    go_wp2_with fail
    clear g0 g1 g2
    generalize hwb : w.heap.size = wb at *
    have HWB : Hid (w.heap.size = wb) := hwb
    clear hwb
    go_loopw [5] (fun i wr => ∃ (c : Nat) (b : Ent), i = .int .i64 c ∧ 1 ≤ c ∧ c ≤ l.length ∧ BoxIs wr wb b ∧ Hid (BestTo l c b) ∧ Turns (fun _ => False) w wr) (fun i _ => l.length - (intOf i).toNat)
    case atStart => exact ⟨1, b0, rfl, by omega, by omega, hbn, ⟨⟨0, by omega, HB0.out.symm⟩, fun j hj => by rw [show j = 0 from by omega, HB0.out]; exact ahd_irrefl _⟩, T0⟩
    case round =>
      obtain ⟨c, b, rfl, hc1', hc2, hbx, HBT, T⟩ := hrel
      clear hbn T0
      have gm := T.cell hc1 (by rw [HWB.out]; exact hmb) (fun x => x)
      obtain ⟨v0, v1, v2⟩ := hbx.get
      by_cases hcl : c < l.length
      · obtain ⟨x, hx⟩ : ∃ x, at' l c = x := ⟨_, rfl⟩
        obtain ⟨p0, p1, p2⟩ := HRC.out c hcl
        have y0 := T.cell p0 (by rw [HWB.out]; exact hgl) (fun x => x)
        have y1 := T.cell p1 (by rw [HWB.out]; exact hgl) (fun x => x)
        have y2 := T.cell p2 (by rw [HWB.out]; exact hgl) (fun x => x)
        rw [hx] at y0 y1 y2
        have HX : Hid (at' l c = x) := hx
        clear hx p0 p1 p2
        have b1 : (c : Int) < (l.length : Int) := by omega
        have b2 : (0 : Int) ≤ (c : Int) := by omega
        cases hA : ahd x b
        · have HBT2 : Hid (BestTo l (c + 1) b) := by
            obtain ⟨⟨j, hj, he⟩, hall⟩ := HBT.out
            refine ⟨⟨j, by omega, he⟩, fun i hi => ?_⟩
            by_cases hic : i = c
            · rw [hic, HX.out]; exact hA
            · exact hall i (by omega)
          rw [show ahd x b = ahB x.id x.prio x.seq b.id b.prio b.seq from rfl] at hA
          go_wp2_with fail
          go_region_held3 (fun w' => w'.cell? ⟨mb, 1, none⟩ = some (.slice (some ⟨g, 0, none⟩) l.length cap) ∧ w'.cell? ⟨g, c * 3, none⟩ = some (.int .i64 x.id) ∧ w'.cell? ⟨g, c * 3 + 1, none⟩ = some (.int .i64 x.prio) ∧ w'.cell? ⟨g, c * 3 + 2, none⟩ = some (.int .i64 x.seq) ∧ w'.cell? ⟨wb, 0, none⟩ = some (.int .i64 b.id) ∧ w'.cell? ⟨wb, 1, none⟩ = some (.int .i64 b.prio) ∧ w'.cell? ⟨wb, 2, none⟩ = some (.int .i64 b.seq)) (go_keep)
            (first | (go_at_call 34; refine (rahead_any _ _ _ _ _ _ _).mono ?_; rintro e w' ⟨rfl, rfl⟩))
          go_wp2_with fail
          go_roundw
          case rel => exact ⟨c + 1, b, by go_num, by omega, by omega, hbx.turns (((Turns.refl (fun _ => False) _).alloc _).alloc _).drew (fun x => x), HBT2, ((T.alloc _).alloc _).drew⟩
          case measure => simp [intOf]; omega
        · have HBT2 : Hid (BestTo l (c + 1) x) := by
            obtain ⟨_, hall⟩ := HBT.out
            refine ⟨⟨c, by omega, HX.out.symm⟩, fun i hi => ?_⟩
            by_cases hic : i = c
            · rw [hic, HX.out]; exact ahd_irrefl _
            · exact nb_trans (ahd_asymm hA) (hall i (by omega))
          rw [show ahd x b = ahB x.id x.prio x.seq b.id b.prio b.seq from rfl] at hA
          go_wp2_with fail
          go_region_held3 (fun w' => w'.cell? ⟨mb, 1, none⟩ = some (.slice (some ⟨g, 0, none⟩) l.length cap) ∧ w'.cell? ⟨g, c * 3, none⟩ = some (.int .i64 x.id) ∧ w'.cell? ⟨g, c * 3 + 1, none⟩ = some (.int .i64 x.prio) ∧ w'.cell? ⟨g, c * 3 + 2, none⟩ = some (.int .i64 x.seq) ∧ w'.cell? ⟨wb, 0, none⟩ = some (.int .i64 b.id) ∧ w'.cell? ⟨wb, 1, none⟩ = some (.int .i64 b.prio) ∧ w'.cell? ⟨wb, 2, none⟩ = some (.int .i64 b.seq)) (go_keep)
            (first | (go_at_call 34; refine (rahead_any _ _ _ _ _ _ _).mono ?_; rintro e w' ⟨rfl, rfl⟩))
          have TT : Turns (fun _ => False) wr ((wr.alloc (.cells #[.int .i64 x.id, .int .i64 x.prio, .int .i64 x.seq] 65)).alloc (.cells #[.int .i64 b.id, .int .i64 b.prio, .int .i64 b.seq] 65)).drew := (((Turns.refl (fun _ => False) _).alloc _).alloc _).drew
          have hbx2 := hbx.turns TT (fun x => x)
          have T2 := T.trans TT
          generalize ((wr.alloc (.cells #[.int .i64 x.id, .int .i64 x.prio, .int .i64 x.seq] 65)).alloc (.cells #[.int .i64 b.id, .int .i64 b.prio, .int .i64 b.seq] 65)).drew = W2 at *
          have hb3 := hbx2.set x
          have T3 : Turns (fun _ => False) w (((W2.setCell ⟨wb, 0, none⟩ (.int .i64 x.id)).setCell ⟨wb, 1, none⟩ (.int .i64 x.prio)).setCell ⟨wb, 2, none⟩ (.int .i64 x.seq)) :=
            T2.next (Turns.setCell (S := fun k => k = wb) (Turns.setCell (S := fun k => k = wb) (Turns.setCell (S := fun k => k = wb) (Turns.refl _ W2) rfl _) rfl _) rfl _) (fun i hi e => by rw [HWB.out] at hi; omega)
          have m1 := T2.cell hc1 (by rw [HWB.out]; exact hmb) (fun x => x)
          obtain ⟨p0, p1, p2⟩ := HRC.out c hcl
          have q0 := T2.cell p0 (by rw [HWB.out]; exact hgl) (fun x => x)
          have q1 := T2.cell p1 (by rw [HWB.out]; exact hgl) (fun x => x)
          have q2 := T2.cell p2 (by rw [HWB.out]; exact hgl) (fun x => x)
          rw [HX.out] at q0 q1 q2
          obtain ⟨u0, u1, u2⟩ := hbx2.get
          have uf := hbx2.froz
          clear p0 p1 p2 y0 y1 y2 v0 v1 v2
          go_wp2_with fail
          go_roundw
          case rel => exact ⟨c + 1, x, by go_num, by omega, by omega, hb3, HBT2, T3⟩
          case measure => simp [intOf]; omega
      · have hcc : c = l.length := by omega
        have HCC : Hid (c = l.length) := hcc
        have b1 : ¬ (c : Int) < (l.length : Int) := by omega
        clear hcc hcl
        go_wp2_with fail
        go_ret2
        obtain ⟨⟨j, hj, he⟩, hall⟩ := HBT.out
        refine ⟨b, rfl, ?_, ?_, T⟩
        · rw [he]; exact at_mem (by omega)
        · intro z hz
          obtain ⟨i, hi, rfl⟩ := mem_at hz
          exact hall i (by rw [HCC.out]; exact hi)
end Go.Proofs.Ythlnbnklhajilaa
