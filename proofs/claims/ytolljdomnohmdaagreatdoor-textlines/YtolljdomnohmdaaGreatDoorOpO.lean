/- An op that came in, cell by cell. -/
import Derived.ProofKit
import Derived.OpenShut
import Derived.ShutString
import Derived.ChangeOld
import Derived.ChangeArms
import Derived.WideShapes
import Derived.Below
import Derived.Deep.Slices
import Derived.Deep.SlicePairs
import Derived.Test.YtolljdomnohmdaaGreatDoorCas
namespace Go.Proofs.YtolljdomnohmdaaGreatDoor
open Go.ChangeShapes Go.WideShapes Go.ChangeAt Go.RowKit Go.Deep

theorem o50 : Tryz.prog.cellsOf 106 = 3 := by kernel_rfl
theorem o24 : Tryz.prog.cellsOf 77 = 5 := by kernel_rfl
theorem o22 : Tryz.prog.cellsOf 75 = 1 := by kernel_rfl
theorem o4 : Tryz.prog.cellsOf 4 = 1 := by kernel_rfl
theorem o3 : Tryz.prog.cellsOf 3 = 1 := by kernel_rfl
theorem o2 : Tryz.prog.cellsOf 2 = 1 := by kernel_rfl

theorem wf64 {n : Int} (h : (Lit.int .i64 n).wf = true) : in64 n := by
  obtain ⟨h1, h2⟩ := bounds_i64 h
  exact ⟨h1, h2⟩
set_option maxRecDepth 100000 in
theorem case_open {H : Type} {enc : TypeId × Value → H} {w : World} {base fuel : Nat} {spare : Nat → Bool} {held : Bool} {cs : List Value} {x : DataW H × List MemPlace} (h : DataW.trod enc Tryz.prog w base spare held fuel 106 cs = some x) :
    ∃ d : CaseD, cs = [.bool d.send, .int .i64 d.chan, .int .i64 d.v] ∧ in64 d.chan ∧ in64 d.v := by
  obtain ⟨xs, n, _, _, hl, hxl, hf⟩ := DataW.trod_struct Tryz.underlying106 h
  rw [o50] at hl
  match cs, hl, xs, hxl with
  | [v0, v1, v2], _, [y0, y1, y2], _ =>
    have g0 := hf 0 _ rfl
    have g1 := hf 1 _ rfl
    have g2 := hf 2 _ rfl
    simp [o4, o3, o2] at g0 g1 g2
    obtain ⟨n0, e0, _⟩ := DataW.trod_bool Tryz.underlying4 g0
    obtain ⟨n1, e1, _, f1⟩ := DataW.trod_int Tryz.underlying3 g1
    obtain ⟨n2, e2, _, f2⟩ := DataW.trod_int Tryz.underlying2 g2
    simp at e0 e1 e2
    exact ⟨⟨n0, n1, n2⟩, by rw [e0, e1, e2], wf64 f1, wf64 f2⟩

set_option maxRecDepth 100000 in
theorem cases_open {H : Type} {enc : TypeId × Value → H} {w : World} {base fuel : Nat} {held : Bool} {cs : List Value} {x : DataW H × List MemPlace} (h : DataW.trod enc Tryz.prog w base (fun _ => true) held fuel 75 cs = some x) :
    ∃ a n c l, cs = [.slice a n c] ∧ AtC w a n l ∧ n ≤ c ∧ ∀ d ∈ l, in64 d.chan ∧ in64 d.v := by
  rcases open_slice Tryz.underlying75 h with ⟨hcs, _⟩ | ⟨a, len, cap, m, k, D, Pl, hcs, _, hl, _, hm, _, hx⟩
  · exact ⟨none, 0, 0, [], hcs, AtC.none _, Nat.le_refl _, fun d hd => by cases hd⟩
  · simp at hm
    subst hm
    rw [o50] at hx
    have hc : ∀ i, i < len → ∃ d : CaseD, (∃ b f, a = ⟨b, f, none⟩ ∧ w.cell? ⟨b, f + i * 3, none⟩ = some (.bool d.send) ∧ w.cell? ⟨b, f + i * 3 + 1, none⟩ = some (.int .i64 d.chan) ∧ w.cell? ⟨b, f + i * 3 + 2, none⟩ = some (.int .i64 d.v)) ∧ in64 d.chan ∧ in64 d.v := by
      intro i hi
      obtain ⟨cs', h1, h2⟩ := hx i (by omega)
      obtain ⟨d, rfl, hd⟩ := case_open h2
      obtain ⟨_, _, hc⟩ := World.cells?_some h1
      have c0 := hc 0 (by omega)
      have c1 := hc 1 (by omega)
      have c2 := hc 2 (by omega)
      rw [add_add] at c0 c1 c2
      have hsp : a.spot = none := by
        obtain ⟨cz, z1, z2⟩ := hx 0 (by omega)
        obtain ⟨dz, rfl, _⟩ := case_open z2
        obtain ⟨_, _, hcz⟩ := World.cells?_some z1
        have cz0 := hcz 0 (by omega)
        rw [add_add] at cz0
        have := World.cell?_spot (v := .bool dz.send) (by simpa using cz0)
        simpa [Addr.add] using this
      obtain ⟨b, f, sp⟩ := a
      simp only at hsp
      subst hsp
      refine ⟨d, ⟨b, f, rfl, ?_, ?_, ?_⟩, hd⟩
      · rw [add_plain] at c0; simpa using c0
      · rw [add_plain] at c1; simpa [Nat.add_assoc] using c1
      · rw [add_plain] at c2; simpa [Nat.add_assoc] using c2
    haveI : Inhabited CaseD := ⟨zeroC⟩
    obtain ⟨g, hg⟩ : ∃ g : Nat → CaseD, ∀ i, i < len → (∃ b f, a = ⟨b, f, none⟩ ∧ w.cell? ⟨b, f + i * 3, none⟩ = some (.bool (g i).send) ∧ w.cell? ⟨b, f + i * 3 + 1, none⟩ = some (.int .i64 (g i).chan) ∧ w.cell? ⟨b, f + i * 3 + 2, none⟩ = some (.int .i64 (g i).v)) ∧ in64 (g i).chan ∧ in64 (g i).v := choose_lt hc
    refine ⟨some a, len, _, (List.range len).map g, hcs, ⟨by simp, ?_⟩, by omega, ?_⟩
    · intro j hj
      obtain ⟨⟨b, f, rfl, h1, h2, h3⟩, _⟩ := hg j hj
      have : ((List.range len).map g).getD j zeroC = g j := by simp [List.getD_eq_getElem?_getD, hj]
      rw [this]
      exact ⟨b, f, rfl, h1, h2, h3⟩
    · intro d hd
      obtain ⟨i, hi, rfl⟩ := List.mem_map.1 hd
      exact (hg i (List.mem_range.1 hi)).2

set_option maxRecDepth 100000 in
theorem op_open {H : Type} {enc : TypeId × Value → H} {w : World} {base b0 : Nat} {r : Reach} {held : Bool} {v : Value} {x : DataW H × List MemPlace} (hok : Value.okWide Tryz.prog w r b0 77 v) (h : ∃ fuel, DataW.trod enc Tryz.prog w base (fun _ => true) held fuel 77 v.cells.toList = some x) :
    ∃ (o : OpD) (a : Option Addr) (m c : Nat), v = .agg #[.int .i64 o.kind, .int .i64 o.n, .int .i64 o.v, .int .i64 o.wait, .slice a m c] ∧ AtC w a m o.cases ∧ m ≤ c ∧ In64 o := by
  obtain ⟨cs, rfl, _⟩ := okWide_struct Tryz.underlying77 hok
  obtain ⟨fuel, h⟩ := h
  obtain ⟨l⟩ := cs
  simp [Value.cells] at h
  obtain ⟨xs, n, _, _, hl, hxl, hf⟩ := DataW.trod_struct Tryz.underlying77 h
  rw [o24] at hl
  match l, hl, xs, hxl with
  | [v0, v1, v2, v3, v4], _, [y0, y1, y2, y3, y4], _ =>
    have g0 := hf 0 _ rfl
    have g1 := hf 1 _ rfl
    have g2 := hf 2 _ rfl
    have g3 := hf 3 _ rfl
    have g4 := hf 4 _ rfl
    simp [o22, o3, o2] at g0 g1 g2 g3 g4
    obtain ⟨n0, e0, _, f0⟩ := DataW.trod_int Tryz.underlying3 g0
    obtain ⟨n1, e1, _, f1⟩ := DataW.trod_int Tryz.underlying2 g1
    obtain ⟨n2, e2, _, f2⟩ := DataW.trod_int Tryz.underlying2 g2
    obtain ⟨n3, e3, _, f3⟩ := DataW.trod_int Tryz.underlying2 g3
    obtain ⟨a, m, c, ll, e4, hat, hmc, h64⟩ := cases_open g4
    simp at e0 e1 e2 e3 e4
    subst e0 e1 e2 e3 e4
    exact ⟨⟨n0, n1, n2, n3, ll⟩, a, m, c, rfl, hat, hmc, ⟨wf64 f0, wf64 f1, wf64 f2, wf64 f3, h64⟩⟩
end Go.Proofs.YtolljdomnohmdaaGreatDoor
