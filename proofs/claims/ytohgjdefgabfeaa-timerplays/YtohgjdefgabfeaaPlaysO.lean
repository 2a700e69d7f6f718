/- A row of calls that came in, cell by cell. -/
import Derived.Test.YtohgjdefgabfeaaPlays
import Derived.ProofKit
import Derived.OpenShut
import Derived.ShutString
import Derived.ChangeOld
import Derived.Below
import Derived.Deep.Slices
import Derived.Deep.SlicePairs
namespace Go.Proofs.Ytohgjdefgabfeaa
open Go.ChangeShapes Go.WideShapes Go.ChangeAt Go.RowKit Go.Deep

theorem Try.cells31 : Try.prog.cellsOf 31 = 3 := by kernel_rfl
theorem Try.cells3 : Try.prog.cellsOf 3 = 1 := by kernel_rfl
theorem Try.cells2 : Try.prog.cellsOf 2 = 1 := by kernel_rfl

theorem act_open {H : Type} {enc : TypeId × Value → H} {w : World} {base fuel : Nat} {spare : Nat → Bool} {held : Bool} {cs : List Value} {x : DataW H × List MemPlace} (h : DataW.trod enc Try.prog w base spare held fuel 31 cs = some x) :
    ∃ d : ActD, cs = [.int .i64 d.op, .int .i64 d.id, .int .i64 d.inn] := by
  obtain ⟨xs, n, _, _, hl, hxl, hf⟩ := DataW.trod_struct Try.underlying31 h
  rw [Try.cells31] at hl
  match cs, hl, xs, hxl with
  | [v0, v1, v2], _, [y0, y1, y2], _ =>
    have g0 := hf 0 _ rfl
    have g1 := hf 1 _ rfl
    have g2 := hf 2 _ rfl
    simp [Try.cells3, Try.cells2] at g0 g1 g2
    obtain ⟨n0, e0, _⟩ := DataW.trod_int Try.underlying3 g0
    obtain ⟨n1, e1, _⟩ := DataW.trod_int Try.underlying3 g1
    obtain ⟨n2, e2, _⟩ := DataW.trod_int Try.underlying2 g2
    simp at e0 e1 e2
    exact ⟨⟨n0, n1, n2⟩, by rw [e0, e1, e2]⟩

theorem acts_open {H : Type} {enc : TypeId × Value → H} {w : World} {base fuel : Nat} {held : Bool} {a0 : Option Addr} {n c : Nat} {x : DataW H × List MemPlace} (h : DataW.trod enc Try.prog w base (fun _ => true) held fuel 22 [.slice a0 n c] = some x) : ActRow w a0 n := by
  rcases open_slice Try.underlying22 h with ⟨hcs, _⟩ | ⟨a, len, cap, m, k, D, Pl, hcs, _, hl, _, hm, _, hx⟩
  · simp at hcs
    intro j hj
    omega
  · simp at hcs
    obtain ⟨rfl, rfl, rfl⟩ := hcs
    simp at hm
    subst hm
    rw [Try.cells31] at hx
    intro i hi
    obtain ⟨cs', h1, h2⟩ := hx i (by omega)
    obtain ⟨d, rfl⟩ := act_open h2
    obtain ⟨_, _, hc⟩ := World.cells?_some h1
    have c0 := hc 0 (by omega)
    have c1 := hc 1 (by omega)
    have c2 := hc 2 (by omega)
    rw [add_add] at c0 c1 c2
    have hsp : a.spot = none := by
      obtain ⟨cz, z1, z2⟩ := hx 0 (by omega)
      obtain ⟨dz, rfl⟩ := act_open z2
      obtain ⟨_, _, hcz⟩ := World.cells?_some z1
      have cz0 := hcz 0 (by omega)
      rw [add_add] at cz0
      have := World.cell?_spot (v := .int .i64 dz.op) (by simpa using cz0)
      simpa [Addr.add] using this
    obtain ⟨b, f, sp⟩ := a
    simp only at hsp
    subst hsp
    refine ⟨b, f, d, rfl, ?_, ?_, ?_⟩
    · rw [add_plain] at c0; simpa using c0
    · rw [add_plain] at c1; simpa [Nat.add_assoc] using c1
    · rw [add_plain] at c2; simpa [Nat.add_assoc] using c2
end Go.Proofs.Ytohgjdefgabfeaa
