/- A row of bytes that came in. -/
import Derived.Test.YtlkbphogpbcjfaaDoorMem
import Derived.Test.YtlkbphogpbcjfaaDoorOpX
namespace Go.Proofs.YtlkbphogpbcjfaaDoor
open Go.ChangeShapes Go.WideShapes Go.ChangeAt Go.RowKit Go.Deep

def AtB (w : World) (a : Option Addr) (Z : List Int) : Prop := ∀ (j : Nat) (x : Int), Z[j]? = some x → ∃ b f, a = some ⟨b, f, none⟩ ∧ w.cell? ⟨b, f + j, none⟩ = some (.int .u8 x)
theorem AtB.kept {w w' : World} {a : Option Addr} {Z : List Int} (h : AtB w a Z) (t : Kept w w') : AtB w' a Z := by
  intro j x hj
  obtain ⟨b, f, e, hc⟩ := h j x hj
  exact ⟨b, f, e, t.cell hc⟩
set_option maxRecDepth 100000 in
theorem bytes_open {H : Type} {enc : TypeId × Value → H} {w : World} {base b0 : Nat} {r : Reach} {held : Bool} {v : Value} {x : DataW H × List MemPlace} (hok : Value.okWide Tryd.prog w r b0 37 v) (h : ∃ fuel, DataW.trod enc Tryd.prog w base (fun _ => true) held fuel 37 v.cells.toList = some x) :
    ∃ (a : Option Addr) (Z : List Int) (c : Nat), v = .slice a Z.length c ∧ AtB w a Z ∧ ∀ z ∈ Z, 0 ≤ z ∧ z ≤ 255 := by
  obtain ⟨a, n, c, rfl⟩ := okWide_slice Tryd.underlying37 hok
  obtain ⟨fuel, hf⟩ := h
  rcases open_ints Tryd.underlying37 Tryd.underlying5 (by kernel_rfl) hf with ⟨hcs, _⟩ | ⟨y, l, c', zs, hcs, _, hl, hm, hz, _, hcell, hwz⟩
  · simp [Value.cells] at hcs
    obtain ⟨rfl, rfl, rfl⟩ := hcs
    exact ⟨none, [], 0, rfl, fun j x hj => by simp at hj, fun z hz => by cases hz⟩
  · simp [Value.cells] at hcs
    obtain ⟨rfl, rfl, rfl⟩ := hcs
    have hz' : zs.length = c := by simpa using hz
    have hlen : (zs.take n).length = n := by rw [List.length_take]; omega
    refine ⟨some y, zs.take n, c, by rw [hlen], ?_, ?_⟩
    · intro j x hj
      rw [List.getElem?_take] at hj
      split at hj
      · rename_i hjn
        have hjz : j < zs.length := by omega
        obtain ⟨b, f, rfl, hc⟩ := ints_at hcell (by omega)
        refine ⟨b, f, rfl, ?_⟩
        rw [hc j hjz, List.getD_eq_getElem?_getD, hj]
        rfl
      · cases hj
    · intro z hz2
      exact bounds_u8 (hwz z (List.mem_of_mem_take hz2))

end Go.Proofs.YtlkbphogpbcjfaaDoor
