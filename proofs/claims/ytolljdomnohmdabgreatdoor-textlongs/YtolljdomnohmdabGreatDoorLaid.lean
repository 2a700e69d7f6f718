/- What the listed variables give to the walks; the builder of a row that lists variables, the world's shape kept. -/
import Derived.ProofKit
import Derived.LaidMore
import Derived.OpenShut
import Derived.ChangeArms
import Derived.Stop.Joined
import Derived.HandedShaped
import Derived.Shelf.Vars
import Derived.Lib.LaidTab
import Derived.Stop.LaidErr
import Derived.Test.YtolljdomnohmdabGreatDoorM2
import Derived.Test.YtolljdomnohmdabGreatDoorTie
import Derived.Test.YtolljdomnohmdabGreatDoorCards
namespace Go.Proofs.YtolljdomnohmdabGreatDoor
open Go.ChangeShapes Go.WideShapes Go.ChangeAt Go.RowKit

theorem own : ownKnob Tryz.prog.godebug = none := by kernel_rfl
theorem laidOut : laidOutB Tryz.prog = true := by kernel_rfl

def laidL : List (String × DataW Unit) := [("math/bits.deBruijn32tab", Rows.laid_math_bits_deBruijn32tab), ("math/bits.deBruijn64tab", Rows.laid_math_bits_deBruijn64tab), ("internal/strconv.uint64pow10", Rows.laid_internal_strconv_uint64pow10), ("strconv.ErrRange", Rows.laid_strconv_ErrRange), ("strconv.ErrSyntax", Rows.laid_strconv_ErrSyntax), ("watchbill/op.shapes", Rows.laid_watchbill_op_shapes)]

theorem gCount : Tryz.prog.globals.size = 7 := by kernel_rfl
theorem gSize : 1 < Tryz.prog.globals.size := by rw [gCount]; decide
theorem gMax : ∀ W : World, W.ShapedOpen Tryz.prog → ∃ m, W.cell? ⟨1, 0, none⟩ = some (.int .i64 m) := fun W h =>
  cell_of_shapedOpen_int (t := 3) (zero := #[.int .i64 0]) h gSize (by kernel_rfl) rfl (by kernel_rfl) (by kernel_rfl) Tryz.underlying3
theorem tTab : (Tryz.prog.globals[2]?).map (·.type) = some 149 := by kernel_rfl
theorem tErr : (Tryz.prog.globals[6]?).map (·.type) = some 88 := by kernel_rfl
theorem gShp : Tryz.prog.globalNamed "watchbill/op.shapes" = some 0 := by kernel_rfl
theorem tShp : (Tryz.prog.globals[0]?).map (·.type) = some 96 := by kernel_rfl
theorem c77 : Tryz.prog.cellsOf 149 = 20 := by kernel_rfl
theorem c57 : Tryz.prog.cellsOf 127 = 1 := by kernel_rfl
theorem dTab : (Rows.laid_internal_strconv_uint64pow10 : DataW Unit) = Lib.tabData .u64 Lib.pow10Tab := by kernel_rfl

/-- A row of the table as a datum. -/
def shD (s : ShapeD) : DataW Unit := .agg [.lit (.string s.word), .lit (.bool s.hasN), .lit (.bool s.hasV), .lit (.bool s.waits), .lit (.bool s.picks), .lit (.int .i64 s.least), .lit (.int .i64 s.most)]
theorem dShp : (Rows.laid_watchbill_op_shapes : DataW Unit) = .agg [shD (shapeOf 0), shD (shapeOf 1), shD (shapeOf 2), shD (shapeOf 3), shD (shapeOf 4), shD (shapeOf 5), shD (shapeOf 6), shD (shapeOf 7), shD (shapeOf 8), shD (shapeOf 9)] := by kernel_rfl
theorem c53 : Tryz.prog.cellsOf 95 = 7 := by kernel_rfl
theorem c54 : Tryz.prog.cellsOf 96 = 70 := by kernel_rfl
theorem c9 : Tryz.prog.cellsOf 9 = 1 := by kernel_rfl
theorem c4 : Tryz.prog.cellsOf 4 = 1 := by kernel_rfl
theorem c2 : Tryz.prog.cellsOf 2 = 1 := by kernel_rfl
set_option maxRecDepth 100000 in
theorem shape_open {enc : TypeId × Value → Unit} {w : World} {base fuel : Nat} {spare : Nat → Bool} {held : Bool} {cs : List Value} {x : DataW Unit × List MemPlace} (s : ShapeD) (h : DataW.trod enc Tryz.prog w base spare held fuel 95 cs = some x) (hx : x.1 = shD s) : cs = shV s := by
  obtain ⟨xs, n, _, rfl, hl, hxl, hf⟩ := DataW.trod_struct Tryz.underlying95 h
  rw [c53] at hl
  match cs, hl, xs, hxl with
  | [v0, v1, v2, v3, v4, v5, v6], _, [y0, y1, y2, y3, y4, y5, y6], _ =>
    have g0 := hf 0 _ rfl
    have g1 := hf 1 _ rfl
    have g2 := hf 2 _ rfl
    have g3 := hf 3 _ rfl
    have g4 := hf 4 _ rfl
    have g5 := hf 5 _ rfl
    have g6 := hf 6 _ rfl
    simp [c9, c4, c2] at g0 g1 g2 g3 g4 g5 g6
    obtain ⟨t0, e0, r0, _⟩ := DataW.trod_string Tryz.underlying9 g0
    obtain ⟨t1, e1, r1⟩ := DataW.trod_bool Tryz.underlying4 g1
    obtain ⟨t2, e2, r2⟩ := DataW.trod_bool Tryz.underlying4 g2
    obtain ⟨t3, e3, r3⟩ := DataW.trod_bool Tryz.underlying4 g3
    obtain ⟨t4, e4, r4⟩ := DataW.trod_bool Tryz.underlying4 g4
    obtain ⟨t5, e5, r5, _⟩ := DataW.trod_int Tryz.underlying2 g5
    obtain ⟨t6, e6, r6, _⟩ := DataW.trod_int Tryz.underlying2 g6
    simp at e0 e1 e2 e3 e4 e5 e6
    subst r0 r1 r2 r3 r4 r5 r6 e0 e1 e2 e3 e4 e5 e6
    simp [shD] at hx
    obtain ⟨q0, q1, q2, q3, q4, q5, q6⟩ := hx
    unfold shV
    rw [← q0, ← q1, ← q2, ← q3, ← q4, ← q5, ← q6, B_of]

/-- What the condition and the world's shape give. -/
theorem rdy_of {W : World} (h : laidMetH Tryz.prog laidL W) (hs : W.ShapedOpen Tryz.prog) : Rdy W := by
  rw [MakeChecks.laidMetH_plain _ _ _ (by kernel_rfl)] at h
  refine ⟨gMax W hs, ?_, ?_, ?_⟩
  · have h2 := h.tail.tail
    rw [dTab] at h2
    exact Lib.tabIs_of_head gTab tTab Tryz.underlying149 Tryz.underlying127 c57 c77 h2
  · obtain ⟨ps, ⟨g, t, cs, fuel, p, q, hg, ht, hv, hd, _, _⟩, _, _⟩ := h.tail.tail.tail
    obtain rfl := Option.some.inj (gErr.symm.trans hg)
    obtain rfl := Option.some.inj (tErr.symm.trans ht)
    obtain ⟨_, u, v, e, _, _⟩ := iface_of_trod Tryz.underlying88 hd
    refine ⟨u, v, ?_⟩
    rw [hv]
    obtain ⟨l⟩ := cs
    simp at e
    subst e
    rfl
  · obtain ⟨ps, ⟨g, t, cs, fuel, p, q, hg, ht, hv, hd, _, _⟩, _, _⟩ := h.tail.tail.tail.tail.tail
    obtain rfl := Option.some.inj (gShp.symm.trans hg)
    obtain rfl := Option.some.inj (tShp.symm.trans ht)
    obtain ⟨xs, m, _, hx, hl, hxl, hf⟩ := DataW.trod_array Tryz.underlying96 hd
    rw [dShp] at hx
    simp only [Prod.mk.injEq, DataW.agg.injEq] at hx
    intro k hk i v hiv
    have hlt : k < xs.length := by rw [hxl]; omega
    have h1 := hf k (by omega)
    rw [c53, List.getElem?_eq_getElem hlt] at h1
    have h2 : (xs[k]).1 = shD (shapeOf k) := by
      have h3 : (xs.map (·.1))[k]? = some (xs[k]).1 := by rw [List.getElem?_map, List.getElem?_eq_getElem hlt]; rfl
      rw [← hx.1] at h3
      have : k = 0 ∨ k = 1 ∨ k = 2 ∨ k = 3 ∨ k = 4 ∨ k = 5 ∨ k = 6 ∨ k = 7 ∨ k = 8 ∨ k = 9 := by omega
      rcases this with rfl | rfl | rfl | rfl | rfl | rfl | rfl | rfl | rfl | rfl <;> exact (Option.some.inj h3).symm
    have h4 := shape_open (shapeOf k) h1 h2
    rw [World.var?_cell gShp hv]
    have hi : i < 7 := by
      rcases Nat.lt_or_ge i 7 with h | h
      · exact h
      · rw [List.getElem?_eq_none (by simpa [shV] using h)] at hiv; cases hiv
    rw [← h4, List.getElem?_take, if_pos hi, List.getElem?_drop] at hiv
    rw [← hiv]
    simp

/-- The door's own heap meets the condition. -/
theorem door_met (os : Os) (args : Array Value) : laidMetH Tryz.prog laidL ((World.doorLaid Tryz.prog 400 os).forCall (fun _ _ => 0) ⟨#[], args, []⟩).memory :=
  laidMetH_of_parts3 (fuel := 8) (laidMet_of_run' 8 (by kernel_rfl) (by kernel_rfl)) (by kernel_rfl) (by kernel_rfl)

section
variable {H : Type} {enc : TypeId × Value → H}
/-- The builder of a row that lists variables, the world's shape handed on. -/
theorem returns_of_change {a : Assume} {C : Checked} {os : Os} {f : FuncId} {fn : Func} {s : ChangeSpec} {conds : List PathCond} {apart fresh handsOn again : Bool} {X : World → Array Value → Prop}
    (hX : ∀ (w w' : World) (args : Array Value), w.heap = w'.heap → X w args → X w' args)
    (own : ownKnob C.prog.godebug = none) (started : os.Started) (noInit : C.prog.inits.idxOf? f = none) (hfn : C.prog.funcs[f]? = some fn)
    (witness : ∃ (w : World) (tape : Tape) (i : Input), w.os = os ∧ (w.forCall tape i).Shaped C.prog ∧ i.vars = [] ∧ Input.okWide C.prog (w.forCall tape i) .any w.heap.size f i ∧
      ((s.pre enc C.prog fn conds apart (w.forCall tape i).memory i.args ∧ X (w.forCall tape i).memory i.args) ∧ sizedMet enc C.prog fn (OpenSpec.ofChange s) apart (w.forCall tape i).memory i.args) ∧ a.holds C.prog (lone (Frame.enter C.prog f i.args .normal) [] (w.forCall tape i)))
    (contract : ∀ (W : World) (base : Nat) (args : Array Value) (ds gs : List (DataW H)) (before : List MemPlace),
      (∀ (j : Nat) t v, fn.params[j]? = some t → args[j]? = some v → Value.okWide C.prog W .any base t v) →
      DataW.Whole enc C.prog fn.params.toList s.vars apart W args.toList ds gs before → X W args → W.ShapedOpen C.prog →
      Calls C.prog f args W fun e W' => ∃ v, e = .returned v ∧ s.post enc C.prog fn apart fresh handsOn again W args v W') :
    ReturnsInHanded a C os f .any (fun w args => (s.pre enc C.prog fn conds apart w args ∧ X w args) ∧ sizedMet enc C.prog fn (OpenSpec.ofChange s) apart w args) (s.post enc C.prog fn apart fresh handsOn again) := by
  refine returnsInHanded_of_calls own started noInit witness ?_
  intro w tape i _ hsh _ hok hpre _
  obtain ⟨_, _, _, fn', hfn', _, _, _, _, hval⟩ := hok
  have e : fn' = fn := Option.some.inj (hfn'.symm.trans hfn)
  subst e
  obtain ⟨⟨⟨ds, gs, before, hw, _⟩, hx⟩, _⟩ := hpre
  have hw' := DataW.Whole.of_heap (w' := w.forCall tape i) (by rfl) hw
  refine (contract (w.forCall tape i) w.heap.size i.args ds gs before hval hw' (hX _ _ _ (by rfl) hx) hsh).mono fun e W' ⟨v, he, hp⟩ => ?_
  subst he
  exact ChangeSpec.post_blind hp
end
end Go.Proofs.YtolljdomnohmdabGreatDoor
