/- Loads that came in. -/
import Derived.Test.YtlkbphogpbcjfaaDoorRtM
import Derived.Test.YtlkbphogpbcjfaaDoorOpX
namespace Go.Proofs.YtlkbphogpbcjfaaDoor
open Go.ChangeShapes Go.WideShapes Go.ChangeAt Go.RowKit Go.Deep

theorem old : Tryd.prog.cellsOf 39 = 2 := by kernel_rfl
theorem ol2 : Tryd.prog.cellsOf 2 = 1 := by kernel_rfl
/-- A load whose numbers are numbers of 64 bits. -/
def L64 (x : LoadD) : Prop := (-9223372036854775808 ≤ x.per ∧ x.per ≤ 9223372036854775807) ∧ (-9223372036854775808 ≤ x.cost ∧ x.cost ≤ 9223372036854775807)
set_option maxRecDepth 100000 in
theorem load_open {H : Type} {enc : TypeId × Value → H} {w : World} {base fuel : Nat} {held : Bool} {cs : List Value} {x : DataW H × List MemPlace} (h : DataW.trod enc Tryd.prog w base (fun _ => true) held fuel 39 cs = some x) :
    ∃ o : LoadD, cs = [.int .i64 o.per, .int .i64 o.cost] ∧ L64 o := by
  obtain ⟨xs, n, _, _, hl, hxl, hf⟩ := DataW.trod_struct Tryd.underlying39 h
  rw [old] at hl
  match cs, hl, xs, hxl with
  | [v0, v1], _, [y0, y1], _ =>
    have g0 := hf 0 _ rfl
    have g1 := hf 1 _ rfl
    simp [ol2] at g0 g1
    obtain ⟨n0, e0, _, k0⟩ := DataW.trod_int Tryd.underlying2 g0
    obtain ⟨n1, e1, _, k1⟩ := DataW.trod_int Tryd.underlying2 g1
    simp at e0 e1
    exact ⟨⟨n0, n1⟩, by rw [e0, e1], bounds_i64 k0, bounds_i64 k1⟩
set_option maxRecDepth 100000 in
theorem loads_open0 {H : Type} {enc : TypeId × Value → H} {w : World} {base fuel : Nat} {held : Bool} {cs : List Value} {x : DataW H × List MemPlace} (h : DataW.trod enc Tryd.prog w base (fun _ => true) held fuel 22 cs = some x) :
    ∃ (a : Option Addr) (Z : List LoadD) (c : Nat), cs = [.slice a Z.length c] ∧ AtL w a Z ∧ ∀ z ∈ Z, L64 z := by
  rcases open_slice Tryd.underlying22 h with ⟨hcs, _⟩ | ⟨y, n, c, m, k, D, Pl, hcs, _, hl, _, hm, _, hx⟩
  · exact ⟨none, [], 0, hcs, AtL.nil _ _, fun z hz => by cases hz⟩
  · simp at hm
    subst hm
    rw [old] at hx
    have hc : ∀ i, i < n → ∃ o : LoadD, (∃ b f, y = ⟨b, f, none⟩ ∧ w.cell? ⟨b, f + i * 2, none⟩ = some (.int .i64 o.per) ∧ w.cell? ⟨b, f + i * 2 + 1, none⟩ = some (.int .i64 o.cost)) ∧ L64 o := by
      intro i hi
      obtain ⟨cs', h1, h2⟩ := hx i (by omega)
      obtain ⟨o, rfl, ho⟩ := load_open h2
      obtain ⟨_, _, hc⟩ := World.cells?_some h1
      have c0 := hc 0 (by omega)
      have c1 := hc 1 (by omega)
      rw [add_add] at c0 c1
      have hsp : y.spot = none := by
        obtain ⟨cz, z1, z2⟩ := hx 0 (by omega)
        obtain ⟨oz, rfl, _⟩ := load_open z2
        obtain ⟨_, _, hcz⟩ := World.cells?_some z1
        have cz0 := hcz 0 (by omega)
        rw [add_add] at cz0
        have := World.cell?_spot (v := .int .i64 oz.per) (by simpa using cz0)
        simpa [Addr.add] using this
      obtain ⟨b, f, sp⟩ := y
      simp only at hsp
      subst hsp
      refine ⟨o, ⟨b, f, rfl, ?_, ?_⟩, ho⟩
      · rw [add_plain] at c0; simpa using c0
      · rw [add_plain] at c1; simpa [Nat.add_assoc] using c1
    haveI : Inhabited LoadD := ⟨⟨0, 0⟩⟩
    obtain ⟨g, hg⟩ : ∃ g : Nat → LoadD, ∀ i, i < n → (∃ b f, y = ⟨b, f, none⟩ ∧ w.cell? ⟨b, f + i * 2, none⟩ = some (.int .i64 (g i).per) ∧ w.cell? ⟨b, f + i * 2 + 1, none⟩ = some (.int .i64 (g i).cost)) ∧ L64 (g i) := choose_lt hc
    have hlen : ((List.range n).map g).length = n := by simp
    refine ⟨some y, (List.range n).map g, _, by rw [hlen]; exact hcs, ?_, ?_⟩
    · intro j o hj
      have hjn : j < n := by have := (List.getElem?_eq_some_iff.1 hj).1; rw [hlen] at this; exact this
      obtain ⟨⟨b, f, rfl, ho⟩, _⟩ := hg j hjn
      have : o = g j := by simp [hjn] at hj; exact hj.symm
      rw [this]
      exact ⟨b, f, rfl, ho⟩
    · intro z hz
      obtain ⟨j, hj, rfl⟩ := List.mem_map.1 hz
      exact (hg j (List.mem_range.1 hj)).2
set_option maxRecDepth 100000 in
theorem loads_open {H : Type} {enc : TypeId × Value → H} {w : World} {base b0 : Nat} {r : Reach} {held : Bool} {v : Value} {x : DataW H × List MemPlace} (hok : Value.okWide Tryd.prog w r b0 22 v) (h : ∃ fuel, DataW.trod enc Tryd.prog w base (fun _ => true) held fuel 22 v.cells.toList = some x) :
    ∃ (a : Option Addr) (Z : List LoadD) (c : Nat), v = .slice a Z.length c ∧ AtL w a Z ∧ ∀ z ∈ Z, L64 z := by
  obtain ⟨a, n, c, rfl⟩ := okWide_slice Tryd.underlying22 hok
  obtain ⟨fuel, hf⟩ := h
  obtain ⟨a', Z, c', hcs, h1, h2⟩ := loads_open0 hf
  simp [Value.cells] at hcs
  obtain ⟨rfl, rfl, rfl⟩ := hcs
  exact ⟨_, Z, _, rfl, h1, h2⟩
end Go.Proofs.YtlkbphogpbcjfaaDoor
