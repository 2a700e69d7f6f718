/- An op that came in, cell by cell. Ops that came in: a slice of them. -/
import Derived.Test.YtlkbphogpbcjfaaGreatDoorCaA
import Derived.ProofKit
import Derived.OpenShut
import Derived.ShutString
import Derived.ChangeOld
import Derived.ChangeArms
import Derived.WideShapes
import Derived.Below
import Derived.Deep.Slices
import Derived.Deep.SlicePairs
namespace Go.Proofs.YtlkbphogpbcjfaaGreatDoor
open Go.ChangeShapes Go.WideShapes Go.ChangeAt Go.RowKit Go.Deep

theorem o50 : Tryz.prog.cellsOf 102 = 3 := by kernel_rfl
theorem o24 : Tryz.prog.cellsOf 83 = 5 := by kernel_rfl
theorem o22 : Tryz.prog.cellsOf 81 = 1 := by kernel_rfl
theorem o4 : Tryz.prog.cellsOf 4 = 1 := by kernel_rfl
theorem o3 : Tryz.prog.cellsOf 3 = 1 := by kernel_rfl
theorem o2 : Tryz.prog.cellsOf 2 = 1 := by kernel_rfl

theorem wf64 {n : Int} (h : (Lit.int .i64 n).wf = true) : in64 n := by
  obtain ⟨h1, h2⟩ := bounds_i64 h
  exact ⟨h1, h2⟩
set_option maxRecDepth 100000 in
theorem case_open {H : Type} {enc : TypeId × Value → H} {w : World} {base fuel : Nat} {spare : Nat → Bool} {held : Bool} {cs : List Value} {x : DataW H × List MemPlace} (h : DataW.trod enc Tryz.prog w base spare held fuel 102 cs = some x) :
    ∃ d : CaseD, cs = [.bool d.send, .int .i64 d.chan, .int .i64 d.v] ∧ in64 d.chan ∧ in64 d.v := by
  obtain ⟨xs, n, _, _, hl, hxl, hf⟩ := DataW.trod_struct Tryz.underlying102 h
  rw [o50] at hl
  match cs, hl, xs, hxl with
  | [v0, v1, v2], _, [y0, y1, y2], _ =>
    have g0 := hf 0 _ rfl
    have g1 := hf 1 _ rfl
    have g2 := hf 2 _ rfl
    simp [o4, o3, o2] at g0 g1 g2
    obtain ⟨n0, e0, _⟩ := DataW.trod_bool Tryz.underlying4 g0
    obtain ⟨n1, e1, _, f1⟩ := DataW.trod_int Tryz.underlying3 g1
    obtain ⟨n2, e2, _, f2⟩ := DataW.trod_int Tryz.underlying2 g2
    simp at e0 e1 e2
    exact ⟨⟨n0, n1, n2⟩, by rw [e0, e1, e2], wf64 f1, wf64 f2⟩

set_option maxRecDepth 100000 in
theorem cases_open {H : Type} {enc : TypeId × Value → H} {w : World} {base fuel : Nat} {held : Bool} {cs : List Value} {x : DataW H × List MemPlace} (h : DataW.trod enc Tryz.prog w base (fun _ => true) held fuel 81 cs = some x) :
    ∃ a n c l, cs = [.slice a n c] ∧ AtC w a n l ∧ n ≤ c ∧ ∀ d ∈ l, in64 d.chan ∧ in64 d.v := by
  rcases open_slice Tryz.underlying81 h with ⟨hcs, _⟩ | ⟨a, len, cap, m, k, D, Pl, hcs, _, hl, _, hm, _, hx⟩
  · exact ⟨none, 0, 0, [], hcs, AtC.none _, Nat.le_refl _, fun d hd => by cases hd⟩
  · simp at hm
    subst hm
    rw [o50] at hx
    have hc : ∀ i, i < len → ∃ d : CaseD, (∃ b f, a = ⟨b, f, none⟩ ∧ w.cell? ⟨b, f + i * 3, none⟩ = some (.bool d.send) ∧ w.cell? ⟨b, f + i * 3 + 1, none⟩ = some (.int .i64 d.chan) ∧ w.cell? ⟨b, f + i * 3 + 2, none⟩ = some (.int .i64 d.v)) ∧ in64 d.chan ∧ in64 d.v := by
      intro i hi
      obtain ⟨cs', h1, h2⟩ := hx i (by omega)
      obtain ⟨d, rfl, hd⟩ := case_open h2
      obtain ⟨_, _, hc⟩ := World.cells?_some h1
      have c0 := hc 0 (by omega)
      have c1 := hc 1 (by omega)
      have c2 := hc 2 (by omega)
      rw [add_add] at c0 c1 c2
      have hsp : a.spot = none := by
        obtain ⟨cz, z1, z2⟩ := hx 0 (by omega)
        obtain ⟨dz, rfl, _⟩ := case_open z2
        obtain ⟨_, _, hcz⟩ := World.cells?_some z1
        have cz0 := hcz 0 (by omega)
        rw [add_add] at cz0
        have := World.cell?_spot (v := .bool dz.send) (by simpa using cz0)
        simpa [Addr.add] using this
      obtain ⟨b, f, sp⟩ := a
      simp only at hsp
      subst hsp
      refine ⟨d, ⟨b, f, rfl, ?_, ?_, ?_⟩, hd⟩
      · rw [add_plain] at c0; simpa using c0
      · rw [add_plain] at c1; simpa [Nat.add_assoc] using c1
      · rw [add_plain] at c2; simpa [Nat.add_assoc] using c2
    haveI : Inhabited CaseD := ⟨zeroC⟩
    obtain ⟨g, hg⟩ : ∃ g : Nat → CaseD, ∀ i, i < len → (∃ b f, a = ⟨b, f, none⟩ ∧ w.cell? ⟨b, f + i * 3, none⟩ = some (.bool (g i).send) ∧ w.cell? ⟨b, f + i * 3 + 1, none⟩ = some (.int .i64 (g i).chan) ∧ w.cell? ⟨b, f + i * 3 + 2, none⟩ = some (.int .i64 (g i).v)) ∧ in64 (g i).chan ∧ in64 (g i).v := choose_lt hc
    refine ⟨some a, len, _, (List.range len).map g, hcs, ⟨by simp, ?_⟩, by omega, ?_⟩
    · intro j hj
      obtain ⟨⟨b, f, rfl, h1, h2, h3⟩, _⟩ := hg j hj
      have : ((List.range len).map g).getD j zeroC = g j := by simp [List.getD_eq_getElem?_getD, hj]
      rw [this]
      exact ⟨b, f, rfl, h1, h2, h3⟩
    · intro d hd
      obtain ⟨i, hi, rfl⟩ := List.mem_map.1 hd
      exact (hg i (List.mem_range.1 hi)).2

set_option maxRecDepth 100000 in
theorem op_open {H : Type} {enc : TypeId × Value → H} {w : World} {base b0 : Nat} {r : Reach} {held : Bool} {v : Value} {x : DataW H × List MemPlace} (hok : Value.okWide Tryz.prog w r b0 83 v) (h : ∃ fuel, DataW.trod enc Tryz.prog w base (fun _ => true) held fuel 83 v.cells.toList = some x) :
    ∃ (o : OpD) (a : Option Addr) (m c : Nat), v = .agg #[.int .i64 o.kind, .int .i64 o.n, .int .i64 o.v, .int .i64 o.wait, .slice a m c] ∧ AtC w a m o.cases ∧ m ≤ c ∧ In64 o := by
  obtain ⟨cs, rfl, _⟩ := okWide_struct Tryz.underlying83 hok
  obtain ⟨fuel, h⟩ := h
  obtain ⟨l⟩ := cs
  simp [Value.cells] at h
  obtain ⟨xs, n, _, _, hl, hxl, hf⟩ := DataW.trod_struct Tryz.underlying83 h
  rw [o24] at hl
  match l, hl, xs, hxl with
  | [v0, v1, v2, v3, v4], _, [y0, y1, y2, y3, y4], _ =>
    have g0 := hf 0 _ rfl
    have g1 := hf 1 _ rfl
    have g2 := hf 2 _ rfl
    have g3 := hf 3 _ rfl
    have g4 := hf 4 _ rfl
    simp [o22, o3, o2] at g0 g1 g2 g3 g4
    obtain ⟨n0, e0, _, f0⟩ := DataW.trod_int Tryz.underlying3 g0
    obtain ⟨n1, e1, _, f1⟩ := DataW.trod_int Tryz.underlying2 g1
    obtain ⟨n2, e2, _, f2⟩ := DataW.trod_int Tryz.underlying2 g2
    obtain ⟨n3, e3, _, f3⟩ := DataW.trod_int Tryz.underlying2 g3
    obtain ⟨a, m, c, ll, e4, hat, hmc, h64⟩ := cases_open g4
    simp at e0 e1 e2 e3 e4
    subst e0 e1 e2 e3 e4
    exact ⟨⟨n0, n1, n2, n3, ll⟩, a, m, c, rfl, hat, hmc, ⟨wf64 f0, wf64 f1, wf64 f2, wf64 f3, h64⟩⟩
end Go.Proofs.YtlkbphogpbcjfaaGreatDoor
namespace Go.Proofs.YtlkbphogpbcjfaaGreatDoor
open Go.ChangeShapes Go.WideShapes Go.ChangeAt Go.RowKit Go.Deep

theorem cases_none {H : Type} {enc : TypeId × Value → H} {w : World} {base fuel : Nat} {held : Bool} {a : Option Addr} {n c : Nat} {x : DataW H × List MemPlace} (h : DataW.trod enc Tryz.prog w base (fun _ => true) held fuel 81 [.slice a n c] = some x) : a = none → c = 0 := by
  intro e
  subst e
  rcases open_slice Tryz.underlying81 h with ⟨hcs, _⟩ | ⟨a, len, cap, m, k, D, Pl, hcs, _, hl, _, hm, _, hx⟩
  · simp at hcs
    exact hcs.2
  · simp at hcs
set_option maxRecDepth 100000 in
theorem opcells_open {H : Type} {enc : TypeId × Value → H} {w : World} {base fuel : Nat} {held : Bool} {cs : List Value} {x : DataW H × List MemPlace} (h : DataW.trod enc Tryz.prog w base (fun _ => true) held fuel 83 cs = some x) :
    ∃ (o : OpD) (a : Option Addr) (c : Nat), cs = [.int .i64 o.kind, .int .i64 o.n, .int .i64 o.v, .int .i64 o.wait, .slice a o.cases.length c] ∧ AtC w a o.cases.length o.cases ∧ o.cases.length ≤ c ∧ (a = none → c = 0) ∧ In64 o := by
  obtain ⟨xs, n, _, _, hl, hxl, hf⟩ := DataW.trod_struct Tryz.underlying83 h
  rw [o24] at hl
  match cs, hl, xs, hxl with
  | [v0, v1, v2, v3, v4], _, [y0, y1, y2, y3, y4], _ =>
    have g0 := hf 0 _ rfl
    have g1 := hf 1 _ rfl
    have g2 := hf 2 _ rfl
    have g3 := hf 3 _ rfl
    have g4 := hf 4 _ rfl
    simp [o22, o3, o2] at g0 g1 g2 g3 g4
    obtain ⟨n0, e0, _, f0⟩ := DataW.trod_int Tryz.underlying3 g0
    obtain ⟨n1, e1, _, f1⟩ := DataW.trod_int Tryz.underlying2 g1
    obtain ⟨n2, e2, _, f2⟩ := DataW.trod_int Tryz.underlying2 g2
    obtain ⟨n3, e3, _, f3⟩ := DataW.trod_int Tryz.underlying2 g3
    obtain ⟨a, m, c, ll, e4, hat, hmc, h64⟩ := cases_open g4
    simp at e0 e1 e2 e3 e4
    subst e0 e1 e2 e3 e4
    have hn := cases_none g4
    obtain rfl : ll.length = m := hat.1
    exact ⟨⟨n0, n1, n2, n3, ll⟩, a, c, rfl, hat, hmc, hn, ⟨wf64 f0, wf64 f1, wf64 f2, wf64 f3, h64⟩⟩
set_option maxRecDepth 100000 in
theorem ops_open {H : Type} {enc : TypeId × Value → H} {w : World} {base b0 : Nat} {r : Reach} {held : Bool} {v : Value} {x : DataW H × List MemPlace} (hok : Value.okWide Tryz.prog w r b0 41 v) (h : ∃ fuel, DataW.trod enc Tryz.prog w base (fun _ => true) held fuel 41 v.cells.toList = some x) :
    ∃ (a : Option Addr) (Z : List OpD) (c : Nat), v = .slice a Z.length c ∧ AtP w a Z ∧ (Z.length ≤ c ∧ (a = none → c = 0) ∧ ∀ o ∈ Z, In64 o) := by
  obtain ⟨a, n, c, rfl⟩ := okWide_slice Tryz.underlying41 hok
  obtain ⟨fuel, hf⟩ := h
  rcases open_slice Tryz.underlying41 hf with ⟨hcs, _⟩ | ⟨y, len, cap, m, k, D, Pl, hcs, _, hl, _, hm, _, hx⟩
  · simp [Value.cells] at hcs
    obtain ⟨rfl, rfl, rfl⟩ := hcs
    exact ⟨none, [], 0, rfl, AtP.nil _ _, Nat.le_refl _, fun _ => rfl, fun z hz => by cases hz⟩
  · simp [Value.cells] at hcs
    obtain ⟨rfl, rfl, rfl⟩ := hcs
    simp at hm
    subst hm
    rw [o24] at hx
    have hc : ∀ i, i < n → ∃ o : OpD, (∃ b f, y = ⟨b, f, none⟩ ∧ OpAt w b (f + i * 5) o) ∧ In64 o := by
      intro i hi
      obtain ⟨cs', h1, h2⟩ := hx i (by omega)
      obtain ⟨o, ca, cc, rfl, hat, hcc, hnn, h64⟩ := opcells_open h2
      obtain ⟨_, _, hc⟩ := World.cells?_some h1
      have c0 := hc 0 (by omega)
      have c1 := hc 1 (by omega)
      have c2 := hc 2 (by omega)
      have c3 := hc 3 (by omega)
      have c4 := hc 4 (by omega)
      rw [add_add] at c0 c1 c2 c3 c4
      have hsp : y.spot = none := by
        obtain ⟨cz, z1, z2⟩ := hx 0 (by omega)
        obtain ⟨oz, _, _, rfl, _⟩ := opcells_open z2
        obtain ⟨_, _, hcz⟩ := World.cells?_some z1
        have cz0 := hcz 0 (by omega)
        rw [add_add] at cz0
        have := World.cell?_spot (v := .int .i64 oz.kind) (by simpa using cz0)
        simpa [Addr.add] using this
      obtain ⟨b, f, sp⟩ := y
      simp only at hsp
      subst hsp
      refine ⟨o, ⟨b, f, rfl, ?_, ?_, ?_, ?_, ca, cc, ?_, hcc, hnn, hat⟩, h64⟩
      · rw [add_plain] at c0; simpa using c0
      · rw [add_plain] at c1; simpa [Nat.add_assoc] using c1
      · rw [add_plain] at c2; simpa [Nat.add_assoc] using c2
      · rw [add_plain] at c3; simpa [Nat.add_assoc] using c3
      · rw [add_plain] at c4; simpa [Nat.add_assoc] using c4
    haveI : Inhabited OpD := ⟨⟨0, 0, 0, 0, []⟩⟩
    obtain ⟨g, hg⟩ : ∃ g : Nat → OpD, ∀ i, i < n → (∃ b f, y = ⟨b, f, none⟩ ∧ OpAt w b (f + i * 5) (g i)) ∧ In64 (g i) := choose_lt hc
    have hlen : ((List.range n).map g).length = n := by simp
    refine ⟨some y, (List.range n).map g, _, by rw [hlen], ?_, by rw [hlen]; omega, fun e => (by cases e), ?_⟩
    · intro j o hj
      have hjn : j < n := by have := (List.getElem?_eq_some_iff.1 hj).1; rw [hlen] at this; exact this
      obtain ⟨⟨b, f, rfl, ho⟩, _⟩ := hg j hjn
      have : o = g j := by simp [hjn] at hj; exact hj.symm
      rw [this]
      exact ⟨b, f, rfl, ho⟩
    · intro o ho
      obtain ⟨i, hi, rfl⟩ := List.mem_map.1 ho
      exact (hg i (List.mem_range.1 hi)).2
end Go.Proofs.YtlkbphogpbcjfaaGreatDoor
