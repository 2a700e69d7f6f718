/- Two tasks with a lock: the law's own set. -/
import Derived.ProofKit
import Derived.OpenShut
import Derived.ShutString
import Derived.ChangeOld
import Derived.ChangeArms
import Derived.WideShapes
import Derived.Below
import Derived.Deep.Slices
import Derived.Deep.SlicePairs
import Derived.Test.YtolljdomnohmdabGreatDoorM2
import Derived.Test.YtolljdomnohmdabGreatDoorCas
import Derived.Test.YtolljdomnohmdabGreatDoorCheck
import Derived.Test.YtolljdomnohmdabGreatDoorM3
import Derived.Test.YtolljdomnohmdabGreatDoorM4
import Derived.Test.YtolljdomnohmdabGreatDoorM0
import Derived.Test.YtolljdomnohmdabGreatDoorM1
import Derived.Test.YtolljdomnohmdabGreatDoorOpT
import Derived.Test.YtolljdomnohmdabGreatDoorPar
import Derived.Test.YtolljdomnohmdabGreatDoorM7
import Derived.Test.YtolljdomnohmdabGreatDoorTxt
import Derived.Test.YtolljdomnohmdabGreatDoorRWrd
import Derived.Test.YtolljdomnohmdabGreatDoorM5
import Derived.Test.YtolljdomnohmdabGreatDoorRead
import Derived.Test.YtolljdomnohmdabGreatDoorM8
import Derived.Test.YtolljdomnohmdabGreatDoorTrn
import Derived.Test.YtolljdomnohmdabGreatDoorQStA
import Derived.Test.YtolljdomnohmdabGreatDoorM14
namespace Go.Proofs.YtolljdomnohmdabGreatDoor
open Go.RowKit

def fastW : List UInt8 := [102, 97, 115, 116]
def slowW : List UInt8 := [115, 108, 111, 119]
def twPA : List OpD := [⟨1, 1, 0, 0, []⟩, ⟨2, 0, 0, 0, []⟩, ⟨1, 1, 0, 0, []⟩, ⟨3, 0, 0, 0, []⟩]
def twPB : List OpD := [⟨2, 0, 0, 0, []⟩, ⟨1, 4, 0, 0, []⟩, ⟨3, 0, 0, 0, []⟩, ⟨1, 1, 0, 0, []⟩]
def twA : TaskD := ⟨fastW, 10, 8, 3, twPA⟩
def twBB : TaskD := ⟨slowW, 20, 20, 6, twPB⟩
/-- Two tasks in one block of the call's own. -/
theorem two_at {Bd : Nat} {w : World} {g : Nat} {n1 n2 : List UInt8} {x1 x2 x3 y1 y2 y3 : Int} {a1 a2 : Option Addr} {c1 c2 : Nat} {p1 p2 : List OpD} (h : Box Bd w 33 g [.string (B n1), .int .i64 x1, .int .i64 x2, .int .i64 x3, .slice a1 p1.length c1, .string (B n2), .int .i64 y1, .int .i64 y2, .int .i64 y3, .slice a2 p2.length c2]) (h1 : AtP w a1 p1) (h2 : AtP w a2 p2) (l1 : p1.length ≤ c1) (l2 : p2.length ≤ c2) :
    AtT w (some ⟨g, 0, none⟩) [⟨n1, x1, x2, x3, p1⟩, ⟨n2, y1, y2, y3, p2⟩] := by
  intro j t hj
  refine ⟨g, 0, rfl, ?_⟩
  match j, hj with
  | 0, hj =>
    obtain rfl := Option.some.inj hj
    exact ⟨h.cell 0 (by simp), h.cell 1 (by simp), h.cell 2 (by simp), h.cell 3 (by simp), a1, c1, h.cell 4 (by simp), l1, h1⟩
  | 1, hj =>
    obtain rfl := Option.some.inj hj
    exact ⟨h.cell 5 (by simp), h.cell 6 (by simp), h.cell 7 (by simp), h.cell 8 (by simp), a2, c2, h.cell 9 (by simp), l2, h2⟩
  | j + 2, hj => simp at hj
/-- A row of ops without cases, where its block has not turned. -/
theorem AtP.turn0 {S : Nat → Prop} {w w' : World} {b : Nat} {p : List OpD} (h : AtP w (some ⟨b, 0, none⟩) p) (t : Turns S w w') (hb : ¬ S b) (hc : ∀ o ∈ p, o.cases = []) : AtP w' (some ⟨b, 0, none⟩) p := by
  intro j o hj
  obtain ⟨b', f', e, ho⟩ := h j o hj
  cases e
  have hn := hc o (List.mem_of_getElem? hj)
  obtain ⟨ca, cc, h1, h2, h4, _⟩ := ho.cs
  have hlt : b < w.heap.size := cell_lt ho.k
  have tc : ∀ {i : Nat} {v : Value}, w.cell? ⟨b, i, none⟩ = some v → w'.cell? ⟨b, i, none⟩ = some v := fun hc => t.cell hc hlt hb
  refine ⟨b, 0, rfl, tc ho.k, tc ho.n, tc ho.v, tc ho.wt, ca, cc, tc h1, h2, h4, ?_⟩
  rw [hn]
  exact ⟨rfl, fun i hi => by simp at hi⟩
theorem tw_nilA : ∀ o ∈ twPA, o.cases = [] := by decide +kernel
theorem tw_nilB : ∀ o ∈ twPB, o.cases = [] := by decide +kernel

set_option maxHeartbeats 4000000 in
set_option maxRecDepth 20000 in
theorem two_any (w : World) : Calls Tryz.prog 9 #[] w fun e w' => e = .returned (.agg #[.int .i64 1, .slice none 0 0, .slice (some ⟨w.heap.size + 1 + 1 + 1 + 1 + 1, 0, none⟩) 2 2]) ∧ Kept w w' ∧
    Box w.heap.size w' 33 (w.heap.size + 1 + 1 + 1 + 1 + 1) [.string (B fastW), .int .i64 10, .int .i64 8, .int .i64 3, .slice (some ⟨w.heap.size + 1, 0, none⟩) 4 4, .string (B slowW), .int .i64 20, .int .i64 20, .int .i64 6, .slice (some ⟨w.heap.size + 1 + 1 + 1, 0, none⟩) 4 4] ∧ AtP w' (some ⟨w.heap.size + 1, 0, none⟩) twPA ∧ AtP w' (some ⟨w.heap.size + 1 + 1 + 1, 0, none⟩) twPB ∧ w'.heap.size = w.heap.size + 6 := by
  have K6 : Kept w ((((((w.alloc (.cells #[.int .i64 1, .slice none 0 0, .slice (some ⟨w.heap.size + 1 + 1 + 1 + 1 + 1, 0, none⟩) 2 2] 27)).alloc (.cells #[.int .i64 1, .int .i64 1, .int .i64 0, .int .i64 0, .slice none 0 0, .int .i64 2, .int .i64 0, .int .i64 0, .int .i64 0, .slice none 0 0, .int .i64 1, .int .i64 1, .int .i64 0, .int .i64 0, .slice none 0 0, .int .i64 3, .int .i64 0, .int .i64 0, .int .i64 0, .slice none 0 0] 37)).alloc (.cells #[.string { data := #[102, 97, 115, 116] }, .int .i64 10, .int .i64 8, .int .i64 3, .slice (some ⟨w.heap.size + 1, 0, none⟩) 4 4] 33)).alloc (.cells #[.int .i64 2, .int .i64 0, .int .i64 0, .int .i64 0, .slice none 0 0, .int .i64 1, .int .i64 4, .int .i64 0, .int .i64 0, .slice none 0 0, .int .i64 3, .int .i64 0, .int .i64 0, .int .i64 0, .slice none 0 0, .int .i64 1, .int .i64 1, .int .i64 0, .int .i64 0, .slice none 0 0] 37)).alloc (.cells #[.string { data := #[115, 108, 111, 119] }, .int .i64 20, .int .i64 20, .int .i64 6, .slice (some ⟨w.heap.size + 1 + 1 + 1, 0, none⟩) 4 4] 33)).alloc (.cells #[.string { data := #[102, 97, 115, 116] }, .int .i64 10, .int .i64 8, .int .i64 3, .slice (some ⟨w.heap.size + 1, 0, none⟩) 4 4, .string { data := #[115, 108, 111, 119] }, .int .i64 20, .int .i64 20, .int .i64 6, .slice (some ⟨w.heap.size + 1 + 1 + 1, 0, none⟩) 4 4] 33)) := ((((((Kept.refl w).alloc _).alloc _).alloc _).alloc _).alloc _).alloc _
  have HA : Hid (AtP ((((((w.alloc (.cells #[.int .i64 1, .slice none 0 0, .slice (some ⟨w.heap.size + 1 + 1 + 1 + 1 + 1, 0, none⟩) 2 2] 27)).alloc (.cells #[.int .i64 1, .int .i64 1, .int .i64 0, .int .i64 0, .slice none 0 0, .int .i64 2, .int .i64 0, .int .i64 0, .int .i64 0, .slice none 0 0, .int .i64 1, .int .i64 1, .int .i64 0, .int .i64 0, .slice none 0 0, .int .i64 3, .int .i64 0, .int .i64 0, .int .i64 0, .slice none 0 0] 37)).alloc (.cells #[.string { data := #[102, 97, 115, 116] }, .int .i64 10, .int .i64 8, .int .i64 3, .slice (some ⟨w.heap.size + 1, 0, none⟩) 4 4] 33)).alloc (.cells #[.int .i64 2, .int .i64 0, .int .i64 0, .int .i64 0, .slice none 0 0, .int .i64 1, .int .i64 4, .int .i64 0, .int .i64 0, .slice none 0 0, .int .i64 3, .int .i64 0, .int .i64 0, .int .i64 0, .slice none 0 0, .int .i64 1, .int .i64 1, .int .i64 0, .int .i64 0, .slice none 0 0] 37)).alloc (.cells #[.string { data := #[115, 108, 111, 119] }, .int .i64 20, .int .i64 20, .int .i64 6, .slice (some ⟨w.heap.size + 1 + 1 + 1, 0, none⟩) 4 4] 33)).alloc (.cells #[.string { data := #[102, 97, 115, 116] }, .int .i64 10, .int .i64 8, .int .i64 3, .slice (some ⟨w.heap.size + 1, 0, none⟩) 4 4, .string { data := #[115, 108, 111, 119] }, .int .i64 20, .int .i64 20, .int .i64 6, .slice (some ⟨w.heap.size + 1 + 1 + 1, 0, none⟩) 4 4] 33)) (some ⟨w.heap.size + 1, 0, none⟩) twPA) := by
    have h := lit_ops (w.alloc (.cells #[.int .i64 1, .slice none 0 0, .slice (some ⟨w.heap.size + 1 + 1 + 1 + 1 + 1, 0, none⟩) 2 2] 27)) twPA tw_nilA #[.int .i64 1, .int .i64 1, .int .i64 0, .int .i64 0, .slice none 0 0, .int .i64 2, .int .i64 0, .int .i64 0, .int .i64 0, .slice none 0 0, .int .i64 1, .int .i64 1, .int .i64 0, .int .i64 0, .slice none 0 0, .int .i64 3, .int .i64 0, .int .i64 0, .int .i64 0, .slice none 0 0] rfl
    rw [show (w.alloc (.cells #[.int .i64 1, .slice none 0 0, .slice (some ⟨w.heap.size + 1 + 1 + 1 + 1 + 1, 0, none⟩) 2 2] 27)).heap.size = w.heap.size + 1 by simp] at h
    exact h.kept (((((Kept.refl _).alloc _).alloc _).alloc _).alloc _)
  have HB : Hid (AtP ((((((w.alloc (.cells #[.int .i64 1, .slice none 0 0, .slice (some ⟨w.heap.size + 1 + 1 + 1 + 1 + 1, 0, none⟩) 2 2] 27)).alloc (.cells #[.int .i64 1, .int .i64 1, .int .i64 0, .int .i64 0, .slice none 0 0, .int .i64 2, .int .i64 0, .int .i64 0, .int .i64 0, .slice none 0 0, .int .i64 1, .int .i64 1, .int .i64 0, .int .i64 0, .slice none 0 0, .int .i64 3, .int .i64 0, .int .i64 0, .int .i64 0, .slice none 0 0] 37)).alloc (.cells #[.string { data := #[102, 97, 115, 116] }, .int .i64 10, .int .i64 8, .int .i64 3, .slice (some ⟨w.heap.size + 1, 0, none⟩) 4 4] 33)).alloc (.cells #[.int .i64 2, .int .i64 0, .int .i64 0, .int .i64 0, .slice none 0 0, .int .i64 1, .int .i64 4, .int .i64 0, .int .i64 0, .slice none 0 0, .int .i64 3, .int .i64 0, .int .i64 0, .int .i64 0, .slice none 0 0, .int .i64 1, .int .i64 1, .int .i64 0, .int .i64 0, .slice none 0 0] 37)).alloc (.cells #[.string { data := #[115, 108, 111, 119] }, .int .i64 20, .int .i64 20, .int .i64 6, .slice (some ⟨w.heap.size + 1 + 1 + 1, 0, none⟩) 4 4] 33)).alloc (.cells #[.string { data := #[102, 97, 115, 116] }, .int .i64 10, .int .i64 8, .int .i64 3, .slice (some ⟨w.heap.size + 1, 0, none⟩) 4 4, .string { data := #[115, 108, 111, 119] }, .int .i64 20, .int .i64 20, .int .i64 6, .slice (some ⟨w.heap.size + 1 + 1 + 1, 0, none⟩) 4 4] 33)) (some ⟨w.heap.size + 1 + 1 + 1, 0, none⟩) twPB) := by
    have h := lit_ops (((w.alloc (.cells #[.int .i64 1, .slice none 0 0, .slice (some ⟨w.heap.size + 1 + 1 + 1 + 1 + 1, 0, none⟩) 2 2] 27)).alloc (.cells #[.int .i64 1, .int .i64 1, .int .i64 0, .int .i64 0, .slice none 0 0, .int .i64 2, .int .i64 0, .int .i64 0, .int .i64 0, .slice none 0 0, .int .i64 1, .int .i64 1, .int .i64 0, .int .i64 0, .slice none 0 0, .int .i64 3, .int .i64 0, .int .i64 0, .int .i64 0, .slice none 0 0] 37)).alloc (.cells #[.string { data := #[102, 97, 115, 116] }, .int .i64 10, .int .i64 8, .int .i64 3, .slice (some ⟨w.heap.size + 1, 0, none⟩) 4 4] 33)) twPB tw_nilB #[.int .i64 2, .int .i64 0, .int .i64 0, .int .i64 0, .slice none 0 0, .int .i64 1, .int .i64 4, .int .i64 0, .int .i64 0, .slice none 0 0, .int .i64 3, .int .i64 0, .int .i64 0, .int .i64 0, .slice none 0 0, .int .i64 1, .int .i64 1, .int .i64 0, .int .i64 0, .slice none 0 0] rfl
    rw [show (((w.alloc (.cells #[.int .i64 1, .slice none 0 0, .slice (some ⟨w.heap.size + 1 + 1 + 1 + 1 + 1, 0, none⟩) 2 2] 27)).alloc (.cells #[.int .i64 1, .int .i64 1, .int .i64 0, .int .i64 0, .slice none 0 0, .int .i64 2, .int .i64 0, .int .i64 0, .int .i64 0, .slice none 0 0, .int .i64 1, .int .i64 1, .int .i64 0, .int .i64 0, .slice none 0 0, .int .i64 3, .int .i64 0, .int .i64 0, .int .i64 0, .slice none 0 0] 37)).alloc (.cells #[.string { data := #[102, 97, 115, 116] }, .int .i64 10, .int .i64 8, .int .i64 3, .slice (some ⟨w.heap.size + 1, 0, none⟩) 4 4] 33)).heap.size = w.heap.size + 1 + 1 + 1 by simp] at h
    exact h.kept (((Kept.refl _).alloc _).alloc _)
  have HX : Hid (Box w.heap.size ((((((w.alloc (.cells #[.int .i64 1, .slice none 0 0, .slice (some ⟨w.heap.size + 1 + 1 + 1 + 1 + 1, 0, none⟩) 2 2] 27)).alloc (.cells #[.int .i64 1, .int .i64 1, .int .i64 0, .int .i64 0, .slice none 0 0, .int .i64 2, .int .i64 0, .int .i64 0, .int .i64 0, .slice none 0 0, .int .i64 1, .int .i64 1, .int .i64 0, .int .i64 0, .slice none 0 0, .int .i64 3, .int .i64 0, .int .i64 0, .int .i64 0, .slice none 0 0] 37)).alloc (.cells #[.string { data := #[102, 97, 115, 116] }, .int .i64 10, .int .i64 8, .int .i64 3, .slice (some ⟨w.heap.size + 1, 0, none⟩) 4 4] 33)).alloc (.cells #[.int .i64 2, .int .i64 0, .int .i64 0, .int .i64 0, .slice none 0 0, .int .i64 1, .int .i64 4, .int .i64 0, .int .i64 0, .slice none 0 0, .int .i64 3, .int .i64 0, .int .i64 0, .int .i64 0, .slice none 0 0, .int .i64 1, .int .i64 1, .int .i64 0, .int .i64 0, .slice none 0 0] 37)).alloc (.cells #[.string { data := #[115, 108, 111, 119] }, .int .i64 20, .int .i64 20, .int .i64 6, .slice (some ⟨w.heap.size + 1 + 1 + 1, 0, none⟩) 4 4] 33)).alloc (.cells #[.string { data := #[102, 97, 115, 116] }, .int .i64 10, .int .i64 8, .int .i64 3, .slice (some ⟨w.heap.size + 1, 0, none⟩) 4 4, .string { data := #[115, 108, 111, 119] }, .int .i64 20, .int .i64 20, .int .i64 6, .slice (some ⟨w.heap.size + 1 + 1 + 1, 0, none⟩) 4 4] 33)) 33 (w.heap.size + 1 + 1 + 1 + 1 + 1) [.string (B fastW), .int .i64 10, .int .i64 8, .int .i64 3, .slice (some ⟨w.heap.size + 1, 0, none⟩) 4 4, .string (B slowW), .int .i64 20, .int .i64 20, .int .i64 6, .slice (some ⟨w.heap.size + 1 + 1 + 1, 0, none⟩) 4 4]) := by
    have h := box_new w.heap.size (((((w.alloc (.cells #[.int .i64 1, .slice none 0 0, .slice (some ⟨w.heap.size + 1 + 1 + 1 + 1 + 1, 0, none⟩) 2 2] 27)).alloc (.cells #[.int .i64 1, .int .i64 1, .int .i64 0, .int .i64 0, .slice none 0 0, .int .i64 2, .int .i64 0, .int .i64 0, .int .i64 0, .slice none 0 0, .int .i64 1, .int .i64 1, .int .i64 0, .int .i64 0, .slice none 0 0, .int .i64 3, .int .i64 0, .int .i64 0, .int .i64 0, .slice none 0 0] 37)).alloc (.cells #[.string { data := #[102, 97, 115, 116] }, .int .i64 10, .int .i64 8, .int .i64 3, .slice (some ⟨w.heap.size + 1, 0, none⟩) 4 4] 33)).alloc (.cells #[.int .i64 2, .int .i64 0, .int .i64 0, .int .i64 0, .slice none 0 0, .int .i64 1, .int .i64 4, .int .i64 0, .int .i64 0, .slice none 0 0, .int .i64 3, .int .i64 0, .int .i64 0, .int .i64 0, .slice none 0 0, .int .i64 1, .int .i64 1, .int .i64 0, .int .i64 0, .slice none 0 0] 37)).alloc (.cells #[.string { data := #[115, 108, 111, 119] }, .int .i64 20, .int .i64 20, .int .i64 6, .slice (some ⟨w.heap.size + 1 + 1 + 1, 0, none⟩) 4 4] 33)) 33 [.string { data := #[102, 97, 115, 116] }, .int .i64 10, .int .i64 8, .int .i64 3, .slice (some ⟨w.heap.size + 1, 0, none⟩) 4 4, .string { data := #[115, 108, 111, 119] }, .int .i64 20, .int .i64 20, .int .i64 6, .slice (some ⟨w.heap.size + 1 + 1 + 1, 0, none⟩) 4 4] (by simp; omega) (by simp)
    rw [show (((((w.alloc (.cells #[.int .i64 1, .slice none 0 0, .slice (some ⟨w.heap.size + 1 + 1 + 1 + 1 + 1, 0, none⟩) 2 2] 27)).alloc (.cells #[.int .i64 1, .int .i64 1, .int .i64 0, .int .i64 0, .slice none 0 0, .int .i64 2, .int .i64 0, .int .i64 0, .int .i64 0, .slice none 0 0, .int .i64 1, .int .i64 1, .int .i64 0, .int .i64 0, .slice none 0 0, .int .i64 3, .int .i64 0, .int .i64 0, .int .i64 0, .slice none 0 0] 37)).alloc (.cells #[.string { data := #[102, 97, 115, 116] }, .int .i64 10, .int .i64 8, .int .i64 3, .slice (some ⟨w.heap.size + 1, 0, none⟩) 4 4] 33)).alloc (.cells #[.int .i64 2, .int .i64 0, .int .i64 0, .int .i64 0, .slice none 0 0, .int .i64 1, .int .i64 4, .int .i64 0, .int .i64 0, .slice none 0 0, .int .i64 3, .int .i64 0, .int .i64 0, .int .i64 0, .slice none 0 0, .int .i64 1, .int .i64 1, .int .i64 0, .int .i64 0, .slice none 0 0] 37)).alloc (.cells #[.string { data := #[115, 108, 111, 119] }, .int .i64 20, .int .i64 20, .int .i64 6, .slice (some ⟨w.heap.size + 1 + 1 + 1, 0, none⟩) 4 4] 33)).heap.size = w.heap.size + 1 + 1 + 1 + 1 + 1 by simp] at h
    exact h
  have hsz : Hid (((((((w.alloc (.cells #[.int .i64 1, .slice none 0 0, .slice (some ⟨w.heap.size + 1 + 1 + 1 + 1 + 1, 0, none⟩) 2 2] 27)).alloc (.cells #[.int .i64 1, .int .i64 1, .int .i64 0, .int .i64 0, .slice none 0 0, .int .i64 2, .int .i64 0, .int .i64 0, .int .i64 0, .slice none 0 0, .int .i64 1, .int .i64 1, .int .i64 0, .int .i64 0, .slice none 0 0, .int .i64 3, .int .i64 0, .int .i64 0, .int .i64 0, .slice none 0 0] 37)).alloc (.cells #[.string { data := #[102, 97, 115, 116] }, .int .i64 10, .int .i64 8, .int .i64 3, .slice (some ⟨w.heap.size + 1, 0, none⟩) 4 4] 33)).alloc (.cells #[.int .i64 2, .int .i64 0, .int .i64 0, .int .i64 0, .slice none 0 0, .int .i64 1, .int .i64 4, .int .i64 0, .int .i64 0, .slice none 0 0, .int .i64 3, .int .i64 0, .int .i64 0, .int .i64 0, .slice none 0 0, .int .i64 1, .int .i64 1, .int .i64 0, .int .i64 0, .slice none 0 0] 37)).alloc (.cells #[.string { data := #[115, 108, 111, 119] }, .int .i64 20, .int .i64 20, .int .i64 6, .slice (some ⟨w.heap.size + 1 + 1 + 1, 0, none⟩) 4 4] 33)).alloc (.cells #[.string { data := #[102, 97, 115, 116] }, .int .i64 10, .int .i64 8, .int .i64 3, .slice (some ⟨w.heap.size + 1, 0, none⟩) 4 4, .string { data := #[115, 108, 111, 119] }, .int .i64 20, .int .i64 20, .int .i64 6, .slice (some ⟨w.heap.size + 1 + 1 + 1, 0, none⟩) 4 4] 33)).heap.size = w.heap.size + 6) := by show _ = _; simp
  obtain ⟨w6, hw6⟩ : ∃ w6, w6 = ((((((w.alloc (.cells #[.int .i64 1, .slice none 0 0, .slice (some ⟨w.heap.size + 1 + 1 + 1 + 1 + 1, 0, none⟩) 2 2] 27)).alloc (.cells #[.int .i64 1, .int .i64 1, .int .i64 0, .int .i64 0, .slice none 0 0, .int .i64 2, .int .i64 0, .int .i64 0, .int .i64 0, .slice none 0 0, .int .i64 1, .int .i64 1, .int .i64 0, .int .i64 0, .slice none 0 0, .int .i64 3, .int .i64 0, .int .i64 0, .int .i64 0, .slice none 0 0] 37)).alloc (.cells #[.string { data := #[102, 97, 115, 116] }, .int .i64 10, .int .i64 8, .int .i64 3, .slice (some ⟨w.heap.size + 1, 0, none⟩) 4 4] 33)).alloc (.cells #[.int .i64 2, .int .i64 0, .int .i64 0, .int .i64 0, .slice none 0 0, .int .i64 1, .int .i64 4, .int .i64 0, .int .i64 0, .slice none 0 0, .int .i64 3, .int .i64 0, .int .i64 0, .int .i64 0, .slice none 0 0, .int .i64 1, .int .i64 1, .int .i64 0, .int .i64 0, .slice none 0 0] 37)).alloc (.cells #[.string { data := #[115, 108, 111, 119] }, .int .i64 20, .int .i64 20, .int .i64 6, .slice (some ⟨w.heap.size + 1 + 1 + 1, 0, none⟩) 4 4] 33)).alloc (.cells #[.string { data := #[102, 97, 115, 116] }, .int .i64 10, .int .i64 8, .int .i64 3, .slice (some ⟨w.heap.size + 1, 0, none⟩) 4 4, .string { data := #[115, 108, 111, 119] }, .int .i64 20, .int .i64 20, .int .i64 6, .slice (some ⟨w.heap.size + 1 + 1 + 1, 0, none⟩) 4 4] 33)) := ⟨_, rfl⟩
  rw [← hw6] at K6 HA HB HX hsz
  go_enter Tryz.func9, Tryz.ntmps9
  go_wp2_with fail
  (try simp only [Exit.inBlock, Exit.then])
  rw [← hw6]
  refine bodyPost_ret (v := .agg #[.int .i64 1, .slice none 0 0, .slice (some ⟨w.heap.size + 1 + 1 + 1 + 1 + 1, 0, none⟩) 2 2]) ?_ rfl ⟨rfl, K6, HX.out, HA.out, HB.out, hsz.out⟩
  rw [results_cell1 rfl, hw6]
  go_simp
end Go.Proofs.YtolljdomnohmdabGreatDoor
namespace Go.Proofs.YtolljdomnohmdabGreatDoor
open Go.RowKit

/-- The two tasks in memory. -/
structure TwoS (Bd : Nat) (w : World) (g a b : Nat) : Prop where
  bx : Box Bd w 33 g [.string (B fastW), .int .i64 10, .int .i64 8, .int .i64 3, .slice (some ⟨a, 0, none⟩) 4 4, .string (B slowW), .int .i64 20, .int .i64 20, .int .i64 6, .slice (some ⟨b, 0, none⟩) 4 4]
  pa : AtP w (some ⟨a, 0, none⟩) twPA
  pb : AtP w (some ⟨b, 0, none⟩) twPB
  lo : Bd ≤ a ∧ Bd ≤ b ∧ Bd ≤ g
  ne : a ≠ g ∧ b ≠ g
  hi : a < w.heap.size ∧ b < w.heap.size ∧ g < w.heap.size
theorem TwoS.turns {S : Nat → Prop} {Bd : Nat} {w w' : World} {g a b : Nat} (h : TwoS Bd w g a b) (t : Turns S w w') (hs : ¬ S g ∧ ¬ S a ∧ ¬ S b) : TwoS Bd w' g a b := by
  have := t.size
  have := h.hi
  exact ⟨h.bx.turns t hs.1, h.pa.turn0 t hs.2.1 tw_nilA, h.pb.turn0 t hs.2.2 tw_nilB, h.lo, h.ne, by omega⟩
theorem TwoS.kept {Bd : Nat} {w w' : World} {g a b : Nat} (h : TwoS Bd w g a b) (k : Kept w w') : TwoS Bd w' g a b := h.turns k.turns ⟨fun x => x, fun x => x, fun x => x⟩
theorem Box.base {Bd Bd' : Nat} {w : World} {e : TypeId} {b : Nat} {cs : List Value} (h : Box Bd w e b cs) (hb : Bd' ≤ Bd) : Box Bd' w e b cs := by
  refine ⟨h.1, ?_⟩
  rcases h.2 with hn | ⟨g, cap, cur, h1, hg, rest⟩
  · exact .inl hn
  · exact .inr ⟨g, cap, cur, h1, by omega, rest⟩
theorem TwoS.base {Bd Bd' : Nat} {w : World} {g a b : Nat} (h : TwoS Bd w g a b) (hb : Bd' ≤ Bd) : TwoS Bd' w g a b := ⟨h.bx.base hb, h.pa, h.pb, by have := h.lo; omega, h.ne, h.hi⟩
theorem two_ex (w : World) : Calls Tryz.prog 9 #[] w fun e w' => ∃ g a b, e = .returned (.agg #[.int .i64 1, .slice none 0 0, .slice (some ⟨g, 0, none⟩) 2 2]) ∧ Kept w w' ∧ TwoS w.heap.size w' g a b := by
  refine (two_any w).mono ?_
  rintro e w' ⟨rfl, K, hx, ha, hb, hs⟩
  exact ⟨_, _, _, rfl, K, hx, ha, hb, by omega, by omega, by omega⟩
theorem TwoS.tasks {Bd : Nat} {w : World} {g a b : Nat} (h : TwoS Bd w g a b) : AtT w (some ⟨g, 0, none⟩) [twA, twBB] := two_at (p1 := twPA) (p2 := twPB) h.bx h.pa h.pb (by decide) (by decide)
def twX1 : List TaskD := [twA, ⟨fastW, 20, 20, 6, twPB⟩]
def twX2 : List TaskD := [twA, ⟨slowW, 20, 21, 6, twPB⟩]
def twX3 : List TaskD := [⟨fastW, 10, 8, 3, []⟩, twBB]
theorem TwoS.set1 {Bd : Nat} {w : World} {g a b : Nat} (h : TwoS Bd w g a b) : AtT (w.setCell ⟨g, 5, none⟩ (.string (B fastW))) (some ⟨g, 0, none⟩) twX1 := two_at (p1 := twPA) (p2 := twPB) (h.bx.set 5 (.string (B fastW))) (h.pa.turn0 (turn_set w g 5 _) (by have := h.ne; omega) tw_nilA) (h.pb.turn0 (turn_set w g 5 _) (by have := h.ne; omega) tw_nilB) (by decide) (by decide)
theorem TwoS.set2 {Bd : Nat} {w : World} {g a b : Nat} (h : TwoS Bd w g a b) : AtT (w.setCell ⟨g, 7, none⟩ (.int .i64 21)) (some ⟨g, 0, none⟩) twX2 := two_at (p1 := twPA) (p2 := twPB) (h.bx.set 7 (.int .i64 21)) (h.pa.turn0 (turn_set w g 7 _) (by have := h.ne; omega) tw_nilA) (h.pb.turn0 (turn_set w g 7 _) (by have := h.ne; omega) tw_nilB) (by decide) (by decide)
theorem TwoS.set3 {Bd : Nat} {w : World} {g a b : Nat} (h : TwoS Bd w g a b) : AtT (w.setCell ⟨g, 4, none⟩ (.slice none 0 0)) (some ⟨g, 0, none⟩) twX3 := two_at (p1 := []) (p2 := twPB) (h.bx.set 4 (.slice none 0 0)) (AtP.nil _ _) (h.pb.turn0 (turn_set w g 4 _) (by have := h.ne; omega) tw_nilB) (by decide) (by decide)
theorem tw_ok {l : List TaskD} (h : ∀ t ∈ l, t.name.length ≤ 1000 ∧ t.prog.length ≤ 1000 ∧ ∀ o ∈ t.prog, o.cases = []) : TsOk l := fun t ht => ⟨by have := (h t ht).1; omega, by have := (h t ht).2.1; omega, fun o ho => by rw [(h t ht).2.2 o ho]; simp⟩
theorem tw_ok0 : TsOk [twA, twBB] := tw_ok (by decide +kernel)
theorem tw_ok1 : TsOk twX1 := tw_ok (by decide +kernel)
theorem tw_ok2 : TsOk twX2 := tw_ok (by decide +kernel)
theorem tw_ok3 : TsOk twX3 := tw_ok (by decide +kernel)
theorem tw_c0 : checkS 1 [] [twA, twBB] = (0, 0) := by decide +kernel
theorem tw_c1 : checkS 1 [] twX1 = (1, 6) := by decide +kernel
theorem tw_cL : checkS 0 [] [twA, twBB] = (0, 3) := by decide +kernel
theorem tw_c2 : checkS 1 [] twX2 = (1, 1) := by decide +kernel
theorem tw_c3 : checkS 1 [] twX3 = (0, 5) := by decide +kernel
theorem tw_c4 : checkS 0 [] [] = (0, 18) := by decide +kernel
def slowerW : List UInt8 := [115, 108, 111, 119, 101, 114]
theorem tw_f1 : findGo slowW 0 [twA, twBB] = (1, true) := by decide +kernel
theorem tw_f2 : findGo slowerW 0 [twA, twBB] = (0, false) := by decide +kernel
theorem tw_same : sameTs [twA, twBB] [twA, twBB] = true := by decide +kernel
theorem tw_same3 : sameTs [twA, twBB] twX3 = false := by decide +kernel
theorem tw_waits : anyT [twA, twBB] = false := by decide +kernel
theorem tw_need : min (costD twPB) 6 = 5 := by decide +kernel
theorem tw_pb : checkP twPB = (0, 0) := by decide +kernel

end Go.Proofs.YtolljdomnohmdabGreatDoor
