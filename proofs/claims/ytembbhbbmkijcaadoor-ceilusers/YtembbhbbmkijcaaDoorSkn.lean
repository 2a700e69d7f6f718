/- The law's own known, of sets. -/
import Derived.Test.YtembbhbbmkijcaaDoorTwo
namespace Go.Proofs.YtembbhbbmkijcaaDoor
open Go.RowKit

/-- The two tasks in memory. -/
structure TwoS (Bd : Nat) (w : World) (g a b : Nat) : Prop where
  bx : Box Bd w 35 g [.string (B fastW), .int .i64 10, .int .i64 8, .int .i64 3, .slice (some ⟨a, 0, none⟩) 4 4, .string (B slowW), .int .i64 20, .int .i64 20, .int .i64 6, .slice (some ⟨b, 0, none⟩) 4 4]
  pa : AtP w (some ⟨a, 0, none⟩) twPA
  pb : AtP w (some ⟨b, 0, none⟩) twPB
  lo : Bd ≤ a ∧ Bd ≤ b ∧ Bd ≤ g
  ne : a ≠ g ∧ b ≠ g
  hi : a < w.heap.size ∧ b < w.heap.size ∧ g < w.heap.size
theorem TwoS.turns {S : Nat → Prop} {Bd : Nat} {w w' : World} {g a b : Nat} (h : TwoS Bd w g a b) (t : Turns S w w') (hs : ¬ S g ∧ ¬ S a ∧ ¬ S b) : TwoS Bd w' g a b := by
  have := t.size
  have := h.hi
  exact ⟨h.bx.turns t hs.1, h.pa.turn0 t hs.2.1 tw_nilA, h.pb.turn0 t hs.2.2 tw_nilB, h.lo, h.ne, by omega⟩
theorem TwoS.kept {Bd : Nat} {w w' : World} {g a b : Nat} (h : TwoS Bd w g a b) (k : Kept w w') : TwoS Bd w' g a b := h.turns k.turns ⟨fun x => x, fun x => x, fun x => x⟩
theorem Box.base {Bd Bd' : Nat} {w : World} {e : TypeId} {b : Nat} {cs : List Value} (h : Box Bd w e b cs) (hb : Bd' ≤ Bd) : Box Bd' w e b cs := by
  refine ⟨h.1, ?_⟩
  rcases h.2 with hn | ⟨g, cap, cur, h1, hg, rest⟩
  · exact .inl hn
  · exact .inr ⟨g, cap, cur, h1, by omega, rest⟩
theorem TwoS.base {Bd Bd' : Nat} {w : World} {g a b : Nat} (h : TwoS Bd w g a b) (hb : Bd' ≤ Bd) : TwoS Bd' w g a b := ⟨h.bx.base hb, h.pa, h.pb, by have := h.lo; omega, h.ne, h.hi⟩
theorem two_ex (w : World) : Calls Tryd.prog 9 #[] w fun e w' => ∃ g a b, e = .returned (.agg #[.int .i64 1, .slice none 0 0, .slice (some ⟨g, 0, none⟩) 2 2]) ∧ Kept w w' ∧ TwoS w.heap.size w' g a b := by
  refine (two_any w).mono ?_
  rintro e w' ⟨rfl, K, hx, ha, hb, hs⟩
  exact ⟨_, _, _, rfl, K, hx, ha, hb, by omega, by omega, by omega⟩
theorem TwoS.tasks {Bd : Nat} {w : World} {g a b : Nat} (h : TwoS Bd w g a b) : AtT w (some ⟨g, 0, none⟩) [twA, twBB] := two_at (p1 := twPA) (p2 := twPB) h.bx h.pa h.pb (by decide) (by decide)
def twX1 : List TaskD := [twA, ⟨fastW, 20, 20, 6, twPB⟩]
def twX2 : List TaskD := [twA, ⟨slowW, 20, 21, 6, twPB⟩]
def twX3 : List TaskD := [⟨fastW, 10, 8, 3, []⟩, twBB]
theorem TwoS.set1 {Bd : Nat} {w : World} {g a b : Nat} (h : TwoS Bd w g a b) : AtT (w.setCell ⟨g, 5, none⟩ (.string (B fastW))) (some ⟨g, 0, none⟩) twX1 := two_at (p1 := twPA) (p2 := twPB) (h.bx.set 5 (.string (B fastW))) (h.pa.turn0 (turn_set w g 5 _) (by have := h.ne; omega) tw_nilA) (h.pb.turn0 (turn_set w g 5 _) (by have := h.ne; omega) tw_nilB) (by decide) (by decide)
theorem TwoS.set2 {Bd : Nat} {w : World} {g a b : Nat} (h : TwoS Bd w g a b) : AtT (w.setCell ⟨g, 7, none⟩ (.int .i64 21)) (some ⟨g, 0, none⟩) twX2 := two_at (p1 := twPA) (p2 := twPB) (h.bx.set 7 (.int .i64 21)) (h.pa.turn0 (turn_set w g 7 _) (by have := h.ne; omega) tw_nilA) (h.pb.turn0 (turn_set w g 7 _) (by have := h.ne; omega) tw_nilB) (by decide) (by decide)
theorem TwoS.set3 {Bd : Nat} {w : World} {g a b : Nat} (h : TwoS Bd w g a b) : AtT (w.setCell ⟨g, 4, none⟩ (.slice none 0 0)) (some ⟨g, 0, none⟩) twX3 := two_at (p1 := []) (p2 := twPB) (h.bx.set 4 (.slice none 0 0)) (AtP.nil _ _) (h.pb.turn0 (turn_set w g 4 _) (by have := h.ne; omega) tw_nilB) (by decide) (by decide)
theorem tw_ok {l : List TaskD} (h : ∀ t ∈ l, t.name.length ≤ 1000 ∧ t.prog.length ≤ 1000 ∧ ∀ o ∈ t.prog, o.cases = []) : TsOk l := fun t ht => ⟨by have := (h t ht).1; omega, by have := (h t ht).2.1; omega, fun o ho => by rw [(h t ht).2.2 o ho]; simp⟩
theorem tw_ok0 : TsOk [twA, twBB] := tw_ok (by decide +kernel)
theorem tw_ok1 : TsOk twX1 := tw_ok (by decide +kernel)
theorem tw_ok2 : TsOk twX2 := tw_ok (by decide +kernel)
theorem tw_ok3 : TsOk twX3 := tw_ok (by decide +kernel)
theorem tw_c0 : checkS 1 [] [twA, twBB] = (0, 0) := by decide +kernel
theorem tw_c1 : checkS 1 [] twX1 = (1, 6) := by decide +kernel
theorem tw_cL : checkS 0 [] [twA, twBB] = (0, 3) := by decide +kernel
theorem tw_c2 : checkS 1 [] twX2 = (1, 1) := by decide +kernel
theorem tw_c3 : checkS 1 [] twX3 = (0, 5) := by decide +kernel
theorem tw_c4 : checkS 0 [] [] = (0, 18) := by decide +kernel
def slowerW : List UInt8 := [115, 108, 111, 119, 101, 114]
theorem tw_f1 : findGo slowW 0 [twA, twBB] = (1, true) := by decide +kernel
theorem tw_f2 : findGo slowerW 0 [twA, twBB] = (0, false) := by decide +kernel
theorem tw_same : sameTs [twA, twBB] [twA, twBB] = true := by decide +kernel
theorem tw_same3 : sameTs [twA, twBB] twX3 = false := by decide +kernel
theorem tw_waits : anyT [twA, twBB] = false := by decide +kernel
theorem tw_need : min (costD twPB) 6 = 5 := by decide +kernel
theorem tw_pb : checkP twPB = (0, 0) := by decide +kernel

end Go.Proofs.YtembbhbbmkijcaaDoor
