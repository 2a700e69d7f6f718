/- Sets that came in. -/
import Derived.Test.YtlkbphogpbcjfaaGreatDoorOpX
import Derived.Test.YtlkbphogpbcjfaaGreatDoorPgA
namespace Go.Proofs.YtlkbphogpbcjfaaGreatDoor
open Go.ChangeShapes Go.WideShapes Go.ChangeAt Go.RowKit Go.Deep

theorem o60 : Tryz.prog.cellsOf 43 = 5 := by kernel_rfl
theorem o63 : Tryz.prog.cellsOf 53 = 2 := by kernel_rfl
theorem o25 : Tryz.prog.cellsOf 25 = 3 := by kernel_rfl
theorem o23 : Tryz.prog.cellsOf 23 = 1 := by kernel_rfl
theorem o22c : Tryz.prog.cellsOf 22 = 1 := by kernel_rfl
theorem o9 : Tryz.prog.cellsOf 9 = 1 := by kernel_rfl
theorem o58 : Tryz.prog.cellsOf 41 = 1 := by kernel_rfl
set_option maxRecDepth 100000 in
theorem opsC_open {H : Type} {enc : TypeId × Value → H} {w : World} {base fuel : Nat} {held : Bool} {cs : List Value} {x : DataW H × List MemPlace} (h : DataW.trod enc Tryz.prog w base (fun _ => true) held fuel 41 cs = some x) :
    ∃ (a : Option Addr) (Z : List OpD) (c : Nat), cs = [.slice a Z.length c] ∧ AtP w a Z ∧ Z.length ≤ c := by
  rcases open_slice Tryz.underlying41 h with ⟨hcs, _⟩ | ⟨y, n, c, m, k, D, Pl, hcs, _, hl, _, hm, _, hx⟩
  · exact ⟨none, [], 0, hcs, AtP.nil _ _, Nat.le_refl _⟩
  · simp at hm
    subst hm
    rw [o24] at hx
    have hc : ∀ i, i < n → ∃ o : OpD, (∃ b f, y = ⟨b, f, none⟩ ∧ OpAt w b (f + i * 5) o) := by
      intro i hi
      obtain ⟨cs', h1, h2⟩ := hx i (by omega)
      obtain ⟨o, ca, cc, rfl, hat, hcc, hnn, h64⟩ := opcells_open h2
      obtain ⟨_, _, hc⟩ := World.cells?_some h1
      have c0 := hc 0 (by omega)
      have c1 := hc 1 (by omega)
      have c2 := hc 2 (by omega)
      have c3 := hc 3 (by omega)
      have c4 := hc 4 (by omega)
      rw [add_add] at c0 c1 c2 c3 c4
      have hsp : y.spot = none := by
        obtain ⟨cz, z1, z2⟩ := hx 0 (by omega)
        obtain ⟨oz, _, _, rfl, _⟩ := opcells_open z2
        obtain ⟨_, _, hcz⟩ := World.cells?_some z1
        have cz0 := hcz 0 (by omega)
        rw [add_add] at cz0
        have := World.cell?_spot (v := .int .i64 oz.kind) (by simpa using cz0)
        simpa [Addr.add] using this
      obtain ⟨b, f, sp⟩ := y
      simp only at hsp
      subst hsp
      refine ⟨o, b, f, rfl, ?_, ?_, ?_, ?_, ca, cc, ?_, hcc, hnn, hat⟩
      · rw [add_plain] at c0; simpa using c0
      · rw [add_plain] at c1; simpa [Nat.add_assoc] using c1
      · rw [add_plain] at c2; simpa [Nat.add_assoc] using c2
      · rw [add_plain] at c3; simpa [Nat.add_assoc] using c3
      · rw [add_plain] at c4; simpa [Nat.add_assoc] using c4
    haveI : Inhabited OpD := ⟨⟨0, 0, 0, 0, []⟩⟩
    obtain ⟨g, hg⟩ : ∃ g : Nat → OpD, ∀ i, i < n → (∃ b f, y = ⟨b, f, none⟩ ∧ OpAt w b (f + i * 5) (g i)) := choose_lt hc
    have hlen : ((List.range n).map g).length = n := by simp
    refine ⟨some y, (List.range n).map g, _, by rw [hlen]; exact hcs, ?_, by rw [hlen]; omega⟩
    intro j o hj
    have hjn : j < n := by have := (List.getElem?_eq_some_iff.1 hj).1; rw [hlen] at this; exact this
    obtain ⟨b, f, rfl, ho⟩ := hg j hjn
    have : o = g j := by simp [hjn] at hj; exact hj.symm
    rw [this]
    exact ⟨b, f, rfl, ho⟩
set_option maxRecDepth 100000 in
theorem hcells_open {H : Type} {enc : TypeId × Value → H} {w : World} {base fuel : Nat} {held : Bool} {cs : List Value} {x : DataW H × List MemPlace} (h : DataW.trod enc Tryz.prog w base (fun _ => true) held fuel 53 cs = some x) :
    ∃ o : ChanD, cs = [.int .i64 o.room, .int .i64 o.server] := by
  obtain ⟨xs, n, _, _, hl, hxl, hf⟩ := DataW.trod_struct Tryz.underlying53 h
  rw [o63] at hl
  match cs, hl, xs, hxl with
  | [v0, v1], _, [y0, y1], _ =>
    have g0 := hf 0 _ rfl
    have g1 := hf 1 _ rfl
    simp [o3] at g0 g1
    obtain ⟨n0, e0, _, _⟩ := DataW.trod_int Tryz.underlying3 g0
    obtain ⟨n1, e1, _, _⟩ := DataW.trod_int Tryz.underlying3 g1
    simp at e0 e1
    exact ⟨⟨n0, n1⟩, by rw [e0, e1]⟩
set_option maxRecDepth 100000 in
theorem tcells_open {H : Type} {enc : TypeId × Value → H} {w : World} {base fuel : Nat} {held : Bool} {cs : List Value} {x : DataW H × List MemPlace} (h : DataW.trod enc Tryz.prog w base (fun _ => true) held fuel 43 cs = some x) :
    ∃ (t : TaskD) (pa : Option Addr) (pc : Nat), cs = [.string (B t.name), .int .i64 t.period, .int .i64 t.deadline, .int .i64 t.budget, .slice pa t.prog.length pc] ∧ AtP w pa t.prog ∧ t.prog.length ≤ pc := by
  obtain ⟨xs, n, _, _, hl, hxl, hf⟩ := DataW.trod_struct Tryz.underlying43 h
  rw [o60] at hl
  match cs, hl, xs, hxl with
  | [v0, v1, v2, v3, v4], _, [y0, y1, y2, y3, y4], _ =>
    have g0 := hf 0 _ rfl
    have g1 := hf 1 _ rfl
    have g2 := hf 2 _ rfl
    have g3 := hf 3 _ rfl
    have g4 := hf 4 _ rfl
    simp [o9, o2, o58] at g0 g1 g2 g3 g4
    obtain ⟨s0, e0, _⟩ := DataW.trod_string Tryz.underlying9 g0
    obtain ⟨n1, e1, _, _⟩ := DataW.trod_int Tryz.underlying2 g1
    obtain ⟨n2, e2, _, _⟩ := DataW.trod_int Tryz.underlying2 g2
    obtain ⟨n3, e3, _, _⟩ := DataW.trod_int Tryz.underlying2 g3
    obtain ⟨pa, Z, pc, e4, hat, hpc⟩ := opsC_open g4
    simp at e0 e1 e2 e3 e4
    subst e0 e1 e2 e3 e4
    exact ⟨⟨s0.data.toList, n1, n2, n3, Z⟩, pa, pc, by rw [B_of], hat, hpc⟩
set_option maxRecDepth 100000 in
theorem tasks_open {H : Type} {enc : TypeId × Value → H} {w : World} {base fuel : Nat} {held : Bool} {cs : List Value} {x : DataW H × List MemPlace} (h : DataW.trod enc Tryz.prog w base (fun _ => true) held fuel 23 cs = some x) :
    ∃ (a : Option Addr) (Z : List TaskD) (c : Nat), cs = [.slice a Z.length c] ∧ AtT w a Z := by
  rcases open_slice Tryz.underlying23 h with ⟨hcs, _⟩ | ⟨y, n, c, m, k, D, Pl, hcs, _, hl, _, hm, _, hx⟩
  · exact ⟨none, [], 0, hcs, AtT.nil _ _⟩
  · simp at hm
    subst hm
    rw [o60] at hx
    have hc : ∀ i, i < n → ∃ o : TaskD, (∃ b f, y = ⟨b, f, none⟩ ∧ TkAt w b (f + i * 5) o) := by
      intro i hi
      obtain ⟨cs', h1, h2⟩ := hx i (by omega)
      obtain ⟨o, pa, pc, rfl, hat, hpc⟩ := tcells_open h2
      obtain ⟨_, _, hc⟩ := World.cells?_some h1
      have c0 := hc 0 (by omega)
      have c1 := hc 1 (by omega)
      have c2 := hc 2 (by omega)
      have c3 := hc 3 (by omega)
      have c4 := hc 4 (by omega)
      rw [add_add] at c0 c1 c2 c3 c4
      have hsp : y.spot = none := by
        obtain ⟨cz, z1, z2⟩ := hx 0 (by omega)
        obtain ⟨oz, pa, pc, rfl, hat, hpc⟩ := tcells_open z2
        obtain ⟨_, _, hcz⟩ := World.cells?_some z1
        have cz0 := hcz 0 (by omega)
        rw [add_add] at cz0
        have := World.cell?_spot (v := .string (B oz.name)) (by simpa using cz0)
        simpa [Addr.add] using this
      obtain ⟨b, f, sp⟩ := y
      simp only at hsp
      subst hsp
      refine ⟨o, b, f, rfl, ?_, ?_, ?_, ?_, pa, pc, ?_, hpc, hat⟩
      · rw [add_plain] at c0; simpa using c0
      · rw [add_plain] at c1; simpa [Nat.add_assoc] using c1
      · rw [add_plain] at c2; simpa [Nat.add_assoc] using c2
      · rw [add_plain] at c3; simpa [Nat.add_assoc] using c3
      · rw [add_plain] at c4; simpa [Nat.add_assoc] using c4
    haveI : Inhabited TaskD := ⟨⟨[], 0, 0, 0, []⟩⟩
    obtain ⟨g, hg⟩ : ∃ g : Nat → TaskD, ∀ i, i < n → (∃ b f, y = ⟨b, f, none⟩ ∧ TkAt w b (f + i * 5) (g i)) := choose_lt hc
    have hlen : ((List.range n).map g).length = n := by simp
    refine ⟨some y, (List.range n).map g, _, by rw [hlen]; exact hcs, ?_⟩
    intro j o hj
    have hjn : j < n := by have := (List.getElem?_eq_some_iff.1 hj).1; rw [hlen] at this; exact this
    obtain ⟨b, f, rfl, ho⟩ := hg j hjn
    have : o = g j := by simp [hjn] at hj; exact hj.symm
    rw [this]
    exact ⟨b, f, rfl, ho⟩
set_option maxRecDepth 100000 in
theorem chans_open {H : Type} {enc : TypeId × Value → H} {w : World} {base fuel : Nat} {held : Bool} {cs : List Value} {x : DataW H × List MemPlace} (h : DataW.trod enc Tryz.prog w base (fun _ => true) held fuel 22 cs = some x) :
    ∃ (a : Option Addr) (Z : List ChanD) (c : Nat), cs = [.slice a Z.length c] ∧ AtH w a Z := by
  rcases open_slice Tryz.underlying22 h with ⟨hcs, _⟩ | ⟨y, n, c, m, k, D, Pl, hcs, _, hl, _, hm, _, hx⟩
  · exact ⟨none, [], 0, hcs, AtH.nil _ _⟩
  · simp at hm
    subst hm
    rw [o63] at hx
    have hc : ∀ i, i < n → ∃ o : ChanD, (∃ b f, y = ⟨b, f, none⟩ ∧ w.cell? ⟨b, f + i * 2, none⟩ = some (.int .i64 o.room) ∧ w.cell? ⟨b, f + i * 2 + 1, none⟩ = some (.int .i64 o.server)) := by
      intro i hi
      obtain ⟨cs', h1, h2⟩ := hx i (by omega)
      obtain ⟨o, rfl⟩ := hcells_open h2
      obtain ⟨_, _, hc⟩ := World.cells?_some h1
      have c0 := hc 0 (by omega)
      have c1 := hc 1 (by omega)
      rw [add_add] at c0 c1
      have hsp : y.spot = none := by
        obtain ⟨cz, z1, z2⟩ := hx 0 (by omega)
        obtain ⟨oz, rfl⟩ := hcells_open z2
        obtain ⟨_, _, hcz⟩ := World.cells?_some z1
        have cz0 := hcz 0 (by omega)
        rw [add_add] at cz0
        have := World.cell?_spot (v := .int .i64 oz.room) (by simpa using cz0)
        simpa [Addr.add] using this
      obtain ⟨b, f, sp⟩ := y
      simp only at hsp
      subst hsp
      refine ⟨o, b, f, rfl, ?_, ?_⟩
      · rw [add_plain] at c0; simpa using c0
      · rw [add_plain] at c1; simpa [Nat.add_assoc] using c1
    haveI : Inhabited ChanD := ⟨⟨0, 0⟩⟩
    obtain ⟨g, hg⟩ : ∃ g : Nat → ChanD, ∀ i, i < n → (∃ b f, y = ⟨b, f, none⟩ ∧ w.cell? ⟨b, f + i * 2, none⟩ = some (.int .i64 (g i).room) ∧ w.cell? ⟨b, f + i * 2 + 1, none⟩ = some (.int .i64 (g i).server)) := choose_lt hc
    have hlen : ((List.range n).map g).length = n := by simp
    refine ⟨some y, (List.range n).map g, _, by rw [hlen]; exact hcs, ?_⟩
    intro j o hj
    have hjn : j < n := by have := (List.getElem?_eq_some_iff.1 hj).1; rw [hlen] at this; exact this
    obtain ⟨b, f, rfl, ho⟩ := hg j hjn
    have : o = g j := by simp [hjn] at hj; exact hj.symm
    rw [this]
    exact ⟨b, f, rfl, ho⟩
set_option maxRecDepth 100000 in
theorem set_open {H : Type} {enc : TypeId × Value → H} {w : World} {base b0 : Nat} {r : Reach} {held : Bool} {v : Value} {x : DataW H × List MemPlace} (hok : Value.okWide Tryz.prog w r b0 25 v) (h : ∃ fuel, DataW.trod enc Tryz.prog w base (fun _ => true) held fuel 25 v.cells.toList = some x) :
    ∃ (L : Int) (ca : Option Addr) (cs : List ChanD) (cc : Nat) (ta : Option Addr) (ts : List TaskD) (tc : Nat), v = .agg #[.int .i64 L, .slice ca cs.length cc, .slice ta ts.length tc] ∧ AtH w ca cs ∧ AtT w ta ts := by
  obtain ⟨cs, rfl, _⟩ := okWide_struct Tryz.underlying25 hok
  obtain ⟨fuel, h⟩ := h
  obtain ⟨l⟩ := cs
  simp [Value.cells] at h
  obtain ⟨xs, n, _, _, hl, hxl, hf⟩ := DataW.trod_struct Tryz.underlying25 h
  rw [o25] at hl
  match l, hl, xs, hxl with
  | [v0, v1, v2], _, [y0, y1, y2], _ =>
    have g0 := hf 0 _ rfl
    have g1 := hf 1 _ rfl
    have g2 := hf 2 _ rfl
    simp [o22c, o23, o3] at g0 g1 g2
    obtain ⟨n0, e0, _, _⟩ := DataW.trod_int Tryz.underlying3 g0
    obtain ⟨ca, hs, cc, e1, hH⟩ := chans_open g1
    obtain ⟨ta, tts, tc, e2, hT⟩ := tasks_open g2
    simp at e0 e1 e2
    subst e0 e1 e2
    exact ⟨n0, ca, hs, cc, ta, tts, tc, rfl, hH, hT⟩
end Go.Proofs.YtlkbphogpbcjfaaGreatDoor
