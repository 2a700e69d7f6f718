/-
  No cell of these rows narrows 'for every input' (looked for: loops, veiled, ifaces, maps, wideKeys, modest, calm, conditions, laid).
  DERIVED. THE GIVEN ROWS OF THIS SEAT. 5 by the template 'for every input the law returns true; each argument reads behind the call as it read before'; 0 by the template 'total and deterministic' (their statements: YthlnbnklhajilaaTotals.lean).
  GIVEN WITH THE SEED: the statements are not yours to turn. If you find one false, say at which input.
  Laid BY PROGRAM, IN A SANDBOX (cutbox-rows.mjs): the forced cells as the released guide's own fill.sh prints them over the translation a2f985d18ee9a910… (all of the seat's roots in one cut). By AI agents, Wed Nov 11 2026. No macro, syntax, notation, axiom, sorry.
-/
import Derived.Test.YthlnbnklhajilaaChecked
import GoSem.Claim
import GoSem.ClaimJoined
import GoSem.ClaimMapViews
import Derived.JoinedTies
import Derived.KernelRfl
namespace Go.Proofs.Ythlnbnklhajilaa
/- THE CELL 'sum', in the pinned program and in every row, IS THE sha256 OF THE DUMP (.gsa) THAT YthlnbnklhajilaaProg.lean LOADS. Nothing in Lean hashes anything: it is a label: what it is worth is what the hold of that sum in a sandbox is worth. -/
noncomputable def Try.pinned : Pinned := { name := "ythlnbnklhajilaa", sum := "a2f985d18ee9a910d75b469934fce85219ca498ac46e9253c753a98573aee680", checked := Try.checked }
namespace Rows
def none {H : Type} : Left H := { results := [], args := [] }

/-- 'watchbilllaw1.HeapPlays': WHATEVER THE INPUT: true; the input reads as it did. -/
def heapPlaysSpec : ChangeSpec := { name := "heapPlays", fn := fun _ => fun
  | [d1, d2] => { results := [.lit (.bool true)], args := [d1, d2] }
  | _ => none }
def heapPlaysRow : OpenClaim := { program := "ythlnbnklhajilaa", sum := "a2f985d18ee9a910d75b469934fce85219ca498ac46e9253c753a98573aee680", func := "watchbill/watchbilllaw1.HeapPlays", spec := "heapPlays", apart := false }
def HeapPlaysSaid : Prop := heapPlaysRow.holds Try.pinned (OpenSpec.ofChange heapPlaysSpec)

/-- ITS FALSE NEIGHBOUR: 'it returns false'. Refute it at one input. -/
def heapPlaysWrong : ChangeSpec := { name := "heapPlays", fn := fun _ => fun
  | [d1, d2] => { results := [.lit (.bool false)], args := [d1, d2] }
  | _ => none }
def HeapPlaysWrongFalsely : Prop := heapPlaysRow.holds Try.pinned (OpenSpec.ofChange heapPlaysWrong)

/-- 'watchbilllaw1.HeapDrains': WHATEVER THE INPUT: true; the input reads as it did. -/
def heapDrainsSpec : ChangeSpec := { name := "heapDrains", fn := fun _ => fun
  | [d1, d2] => { results := [.lit (.bool true)], args := [d1, d2] }
  | _ => none }
def heapDrainsRow : OpenClaim := { program := "ythlnbnklhajilaa", sum := "a2f985d18ee9a910d75b469934fce85219ca498ac46e9253c753a98573aee680", func := "watchbill/watchbilllaw1.HeapDrains", spec := "heapDrains", apart := false }
def HeapDrainsSaid : Prop := heapDrainsRow.holds Try.pinned (OpenSpec.ofChange heapDrainsSpec)

/-- ITS FALSE NEIGHBOUR: 'it returns false'. Refute it at one input. -/
def heapDrainsWrong : ChangeSpec := { name := "heapDrains", fn := fun _ => fun
  | [d1, d2] => { results := [.lit (.bool false)], args := [d1, d2] }
  | _ => none }
def HeapDrainsWrongFalsely : Prop := heapDrainsRow.holds Try.pinned (OpenSpec.ofChange heapDrainsWrong)

/-- 'watchbilllaw1.HeapRaised': WHATEVER THE INPUT: true; the input reads as it did. -/
def heapRaisedSpec : ChangeSpec := { name := "heapRaised", fn := fun _ => fun
  | [d1, d2] => { results := [.lit (.bool true)], args := [d1, d2] }
  | _ => none }
def heapRaisedRow : OpenClaim := { program := "ythlnbnklhajilaa", sum := "a2f985d18ee9a910d75b469934fce85219ca498ac46e9253c753a98573aee680", func := "watchbill/watchbilllaw1.HeapRaised", spec := "heapRaised", apart := false }
def HeapRaisedSaid : Prop := heapRaisedRow.holds Try.pinned (OpenSpec.ofChange heapRaisedSpec)

/-- ITS FALSE NEIGHBOUR: 'it returns false'. Refute it at one input. -/
def heapRaisedWrong : ChangeSpec := { name := "heapRaised", fn := fun _ => fun
  | [d1, d2] => { results := [.lit (.bool false)], args := [d1, d2] }
  | _ => none }
def HeapRaisedWrongFalsely : Prop := heapRaisedRow.holds Try.pinned (OpenSpec.ofChange heapRaisedWrong)

/-- 'watchbilllaw1.HeapRooms': WHATEVER THE INPUT: true; the input reads as it did. -/
def heapRoomsSpec : ChangeSpec := { name := "heapRooms", fn := fun _ => fun
  | [d] => { results := [.lit (.bool true)], args := [d] }
  | _ => none }
def heapRoomsRow : OpenClaim := { program := "ythlnbnklhajilaa", sum := "a2f985d18ee9a910d75b469934fce85219ca498ac46e9253c753a98573aee680", func := "watchbill/watchbilllaw1.HeapRooms", spec := "heapRooms", apart := false }
def HeapRoomsSaid : Prop := heapRoomsRow.holds Try.pinned (OpenSpec.ofChange heapRoomsSpec)

/-- ITS FALSE NEIGHBOUR: 'it returns false'. Refute it at one input. -/
def heapRoomsWrong : ChangeSpec := { name := "heapRooms", fn := fun _ => fun
  | [d] => { results := [.lit (.bool false)], args := [d] }
  | _ => none }
def HeapRoomsWrongFalsely : Prop := heapRoomsRow.holds Try.pinned (OpenSpec.ofChange heapRoomsWrong)

/-- 'watchbilllaw1.HeapSame': WHATEVER THE INPUT: true; the input reads as it did. -/
def heapSameSpec : ChangeSpec := { name := "heapSame", fn := fun _ => fun
  | [d1, d2, d3] => { results := [.lit (.bool true)], args := [d1, d2, d3] }
  | _ => none }
def heapSameRow : OpenClaim := { program := "ythlnbnklhajilaa", sum := "a2f985d18ee9a910d75b469934fce85219ca498ac46e9253c753a98573aee680", func := "watchbill/watchbilllaw1.HeapSame", spec := "heapSame", apart := false }
def HeapSameSaid : Prop := heapSameRow.holds Try.pinned (OpenSpec.ofChange heapSameSpec)

/-- ITS FALSE NEIGHBOUR: 'it returns false'. Refute it at one input. -/
def heapSameWrong : ChangeSpec := { name := "heapSame", fn := fun _ => fun
  | [d1, d2, d3] => { results := [.lit (.bool false)], args := [d1, d2, d3] }
  | _ => none }
def HeapSameWrongFalsely : Prop := heapSameRow.holds Try.pinned (OpenSpec.ofChange heapSameWrong)

/- THE SECOND FORM. 'bulk': how many values and letters a reading holds, each counted each time it is reached (what is shared counts as often as it is met; a slice's spare places count too). A statement '..UptoSaid' is the law's where the arguments, and the package variables that the reading takes, are together of bulk at most 1048576: NARROWER than '..Said'. Prove '..Said' where nothing that the law and all that it calls make is longer than what came in: it says more and counts as full. Else prove '..UptoSaid'. A law counts once. -/
mutual
def uptoBulk {H : Type} : DataW H → Nat
  | .lit (.string bytes) => bytes.length + 1
  | .lit _ => 1
  | .nil => 1
  | .ptr d => uptoBulk d + 1
  | .slice elems spare => uptoBulkAll elems + uptoBulkAll spare + 1
  | .agg parts => uptoBulkAll parts + 1
  | .iface _ d => uptoBulk d + 1
  | .map entries => uptoBulkEntries entries + 1
  | .held _ => 1
def uptoBulkAll {H : Type} : List (DataW H) → Nat
  | [] => 0
  | d :: r => uptoBulk d + uptoBulkAll r
def uptoBulkEntries {H : Type} : List (Lit × DataW H) → Nat
  | [] => 0
  | x :: r => uptoBulkEntry x + uptoBulkEntries r
def uptoBulkEntry {H : Type} : Lit × DataW H → Nat
  | (.string bytes, d) => bytes.length + uptoBulk d + 1
  | (_, d) => uptoBulk d + 1
 end
def uptoSmall : (H : Type) → List (DataW H) → Bool := fun _ ds => decide (uptoBulkAll ds ≤ 1048576)
def OpenSpec.upto (s : _root_.Go.ChangeSpec) : _root_.Go.OpenSpec := { _root_.Go.OpenSpec.ofChange s with cond := some uptoSmall }

/-- 'watchbilllaw1.HeapPlays', WHERE WHAT IT READS IS OF BULK AT MOST 1048576: true; the input reads as it did. -/
def heapPlaysUptoRow : OpenClaim := { program := "ythlnbnklhajilaa", sum := "a2f985d18ee9a910d75b469934fce85219ca498ac46e9253c753a98573aee680", func := "watchbill/watchbilllaw1.HeapPlays", spec := "heapPlays", apart := false, narrowed := true }
def HeapPlaysUptoSaid : Prop := heapPlaysUptoRow.holds Try.pinned (OpenSpec.upto heapPlaysSpec)

/-- 'watchbilllaw1.HeapDrains', WHERE WHAT IT READS IS OF BULK AT MOST 1048576: true; the input reads as it did. -/
def heapDrainsUptoRow : OpenClaim := { program := "ythlnbnklhajilaa", sum := "a2f985d18ee9a910d75b469934fce85219ca498ac46e9253c753a98573aee680", func := "watchbill/watchbilllaw1.HeapDrains", spec := "heapDrains", apart := false, narrowed := true }
def HeapDrainsUptoSaid : Prop := heapDrainsUptoRow.holds Try.pinned (OpenSpec.upto heapDrainsSpec)

/-- 'watchbilllaw1.HeapRaised', WHERE WHAT IT READS IS OF BULK AT MOST 1048576: true; the input reads as it did. -/
def heapRaisedUptoRow : OpenClaim := { program := "ythlnbnklhajilaa", sum := "a2f985d18ee9a910d75b469934fce85219ca498ac46e9253c753a98573aee680", func := "watchbill/watchbilllaw1.HeapRaised", spec := "heapRaised", apart := false, narrowed := true }
def HeapRaisedUptoSaid : Prop := heapRaisedUptoRow.holds Try.pinned (OpenSpec.upto heapRaisedSpec)

/-- 'watchbilllaw1.HeapRooms', WHERE WHAT IT READS IS OF BULK AT MOST 1048576: true; the input reads as it did. -/
def heapRoomsUptoRow : OpenClaim := { program := "ythlnbnklhajilaa", sum := "a2f985d18ee9a910d75b469934fce85219ca498ac46e9253c753a98573aee680", func := "watchbill/watchbilllaw1.HeapRooms", spec := "heapRooms", apart := false, narrowed := true }
def HeapRoomsUptoSaid : Prop := heapRoomsUptoRow.holds Try.pinned (OpenSpec.upto heapRoomsSpec)

/-- 'watchbilllaw1.HeapSame', WHERE WHAT IT READS IS OF BULK AT MOST 1048576: true; the input reads as it did. -/
def heapSameUptoRow : OpenClaim := { program := "ythlnbnklhajilaa", sum := "a2f985d18ee9a910d75b469934fce85219ca498ac46e9253c753a98573aee680", func := "watchbill/watchbilllaw1.HeapSame", spec := "heapSame", apart := false, narrowed := true }
def HeapSameUptoSaid : Prop := heapSameUptoRow.holds Try.pinned (OpenSpec.upto heapSameSpec)

end Rows
end Go.Proofs.Ythlnbnklhajilaa
