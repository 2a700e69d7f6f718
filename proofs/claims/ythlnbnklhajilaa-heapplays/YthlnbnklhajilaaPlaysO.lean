/- A row of calls that came in, cell by cell. -/
import Derived.Test.YthlnbnklhajilaaPlaysL
import Derived.ProofKit
import Derived.OpenShut
import Derived.ShutString
import Derived.ChangeOld
import Derived.Below
import Derived.Deep.Slices
import Derived.Deep.SlicePairs
namespace Go.Proofs.Ythlnbnklhajilaa
open Go.ChangeShapes Go.WideShapes Go.ChangeAt Go.RowKit Go.Deep

theorem Try.cells32 : Try.prog.cellsOf 32 = 4 := by kernel_rfl
theorem Try.cells3 : Try.prog.cellsOf 3 = 1 := by kernel_rfl
theorem Try.cells2 : Try.prog.cellsOf 2 = 1 := by kernel_rfl

/-- What the walk is told of a row of calls that came in. -/
def ActRow (w : World) (a0 : Option Addr) (n : Nat) : Prop :=
  n = 0 ∨ ∃ (b f : Nat) (A : Nat → ActD), a0 = some ⟨b, f, none⟩ ∧ ∀ j, j < n → w.cell? ⟨b, f + j * 4, none⟩ = some (.int .i64 (A j).op) ∧ w.cell? ⟨b, f + j * 4 + 1, none⟩ = some (.int .i64 (A j).id) ∧ w.cell? ⟨b, f + j * 4 + 2, none⟩ = some (.int .i64 (A j).prio) ∧ w.cell? ⟨b, f + j * 4 + 3, none⟩ = some (.int .i64 (A j).seq)

theorem act_open {H : Type} {enc : TypeId × Value → H} {w : World} {base fuel : Nat} {spare : Nat → Bool} {held : Bool} {cs : List Value} {x : DataW H × List MemPlace} (h : DataW.trod enc Try.prog w base spare held fuel 32 cs = some x) :
    ∃ d : ActD, cs = [.int .i64 d.op, .int .i64 d.id, .int .i64 d.prio, .int .i64 d.seq] := by
  obtain ⟨xs, n, _, _, hl, hxl, hf⟩ := DataW.trod_struct Try.underlying32 h
  rw [Try.cells32] at hl
  match cs, hl, xs, hxl with
  | [v0, v1, v2, v3], _, [y0, y1, y2, y3], _ =>
    have g0 := hf 0 _ rfl
    have g1 := hf 1 _ rfl
    have g2 := hf 2 _ rfl
    have g3 := hf 3 _ rfl
    simp [Try.cells3, Try.cells2] at g0 g1 g2 g3
    obtain ⟨n0, e0, _⟩ := DataW.trod_int Try.underlying3 g0
    obtain ⟨n1, e1, _⟩ := DataW.trod_int Try.underlying3 g1
    obtain ⟨n2, e2, _⟩ := DataW.trod_int Try.underlying3 g2
    obtain ⟨n3, e3, _⟩ := DataW.trod_int Try.underlying2 g3
    simp at e0 e1 e2 e3
    exact ⟨⟨n0, n1, n2, n3⟩, by rw [e0, e1, e2, e3]⟩

theorem acts_open {H : Type} {enc : TypeId × Value → H} {w : World} {base fuel : Nat} {held : Bool} {a0 : Option Addr} {n c : Nat} {x : DataW H × List MemPlace} (h : DataW.trod enc Try.prog w base (fun _ => true) held fuel 22 [.slice a0 n c] = some x) : ActRow w a0 n := by
  rcases open_slice Try.underlying22 h with ⟨hcs, _⟩ | ⟨a, len, cap, m, k, D, Pl, hcs, _, hl, _, hm, _, hx⟩
  · simp at hcs
    exact .inl hcs.2.1
  · simp at hcs
    obtain ⟨rfl, rfl, rfl⟩ := hcs
    simp at hm
    subst hm
    rw [Try.cells32] at hx
    by_cases hz : n = 0
    · exact .inl hz
    · right
      have each : ∀ i, i < n → ∃ d : ActD, w.cell? (a.add (i * 4)) = some (.int .i64 d.op) ∧ w.cell? (a.add (i * 4 + 1)) = some (.int .i64 d.id) ∧ w.cell? (a.add (i * 4 + 2)) = some (.int .i64 d.prio) ∧ w.cell? (a.add (i * 4 + 3)) = some (.int .i64 d.seq) := by
        intro i hi
        obtain ⟨cs', h1, h2⟩ := hx i (by omega)
        obtain ⟨d, rfl⟩ := act_open h2
        obtain ⟨_, _, hc⟩ := World.cells?_some h1
        have c0 := hc 0 (by omega)
        have c1 := hc 1 (by omega)
        have c2 := hc 2 (by omega)
        have c3 := hc 3 (by omega)
        rw [add_add] at c0 c1 c2 c3
        exact ⟨d, by simpa using c0, by simpa using c1, by simpa using c2, by simpa using c3⟩
      have hsp : a.spot = none := by
        obtain ⟨d, h1, _⟩ := each 0 (by omega)
        simpa [Addr.add] using World.cell?_spot h1
      obtain ⟨b, f, sp⟩ := a
      simp only at hsp
      subst hsp
      haveI : Inhabited ActD := ⟨⟨0, 0, 0, 0⟩⟩
      obtain ⟨A, hA⟩ := choose_lt each
      refine ⟨b, f, A, rfl, ?_⟩
      intro j hj
      obtain ⟨p0, p1, p2, p3⟩ := hA j hj
      rw [add_plain] at p0 p1 p2 p3
      exact ⟨p0, p1, p2, p3⟩
end Go.Proofs.Ythlnbnklhajilaa
