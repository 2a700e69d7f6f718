/- Programs of runs and locks: plain mathematics. -/
import Derived.Test.YtembbhbbmkijcaaDoorKnC
namespace Go.Proofs.YtembbhbbmkijcaaDoor
open Go.RowKit

def oRun (r : Int) : OpD := ⟨1, r, 0, 0, []⟩
def oLock (k : Int) : OpD := ⟨2, k, 0, 0, []⟩
def oUnl (k : Int) : OpD := ⟨3, k, 0, 0, []⟩
theorem nrun {x : Int} (h0 : 1 ≤ x) (h1 : x ≤ 1000) : checkD (oRun x) = 0 := by
  unfold checkD oRun
  rw [if_pos (show isKindB (OpD.mk 1 x 0 0 []).kind = true from rfl), if_pos (by simp [takesB, shapeOf]; omega)]
  rfl
theorem run_run {m : Nat} {lp : List Nat} {r : Int} : takeM m lp (oRun r) = some (m, lp) := by
  unfold takeM oRun
  simp [waitsD]
theorem one_at {Bd : Nat} {w : World} {g : Nat} {n1 : List UInt8} {x1 x2 x3 : Int} {a1 : Option Addr} {c1 : Nat} {p1 : List OpD} (h : Box Bd w 35 g [.string (B n1), .int .i64 x1, .int .i64 x2, .int .i64 x3, .slice a1 p1.length c1]) (h1 : AtP w a1 p1) (l1 : p1.length ≤ c1) :
    AtT w (some ⟨g, 0, none⟩) [⟨n1, x1, x2, x3, p1⟩] := by
  intro j t hj
  refine ⟨g, 0, rfl, ?_⟩
  match j, hj with
  | 0, hj =>
    obtain rfl := Option.some.inj hj
    exact ⟨h.cell 0 (by simp), h.cell 1 (by simp), h.cell 2 (by simp), h.cell 3 (by simp), a1, c1, h.cell 4 (by simp), l1, h1⟩
  | j + 1, hj => simp at hj
/-- Of locks within one another. -/
def nestP (a b c d : Int) : List OpD := [oRun a, oLock 0, oRun b, oLock 1, oRun c, oUnl 1, oRun d, oUnl 0]
theorem nest_bal (a b c d : Int) : Bal 3 0 0 (nestP a b c d) (nestP a b c d) :=
  .one (m1 := 0) (by simp [oRun]) (by simp [oRun]) run_run (.one (m1 := 1) (by decide) (by decide) (by decide +kernel) (.one (m1 := 1) (by simp [oRun]) (by simp [oRun]) run_run (.one (m1 := 3) (by decide) (by decide) (by decide +kernel) (.one (m1 := 3) (by simp [oRun]) (by simp [oRun]) run_run (.one (m1 := 1) (by decide) (by decide) (by decide +kernel) (.one (m1 := 1) (by simp [oRun]) (by simp [oRun]) run_run (.one (m1 := 0) (by decide) (by decide) (by decide +kernel) (.nil _ _))))))))
theorem nest_check {a b c d : Int} (ha : 1 ≤ a ∧ a ≤ 50) (hb : 1 ≤ b ∧ b ≤ 50) (hc : 1 ≤ c ∧ c ≤ 50) (hd : 1 ≤ d ∧ d ≤ 50) : checkP (nestP a b c d) = (0, 0) := by
  refine bal_check (nest_bal a b c d) (by simp [nestP]) (fun o ho => ?_) (by simp [nestP])
  simp only [nestP, List.mem_cons, List.not_mem_nil, or_false] at ho
  rcases ho with rfl | rfl | rfl | rfl | rfl | rfl | rfl | rfl
  · exact nrun ha.1 (by omega)
  · decide +kernel
  · exact nrun hb.1 (by omega)
  · decide +kernel
  · exact nrun hc.1 (by omega)
  · decide +kernel
  · exact nrun hd.1 (by omega)
  · decide +kernel
theorem nest_cost (a b c d : Int) : costD (nestP a b c d) = a + b + c + d := by
  simp [costD, timesGo, costs, sumL, nestP, oRun, oLock, oUnl]
  omega
theorem nest_sec0 {a b c d : Int} (hb : 1 ≤ b) (hc : 1 ≤ c) (hd : 1 ≤ d) : secGo 0 0 0 (nestP a b c d) = b + c + d := by
  simp [secGo, nestP, oRun, oLock, oUnl]
  omega
theorem nest_sec1 {a b c d : Int} (hc : 1 ≤ c) : secGo 1 0 0 (nestP a b c d) = c := by
  simp [secGo, nestP, oRun, oLock, oUnl]
  omega
theorem nest_sec2 (a b c d : Int) : secGo 2 0 0 (nestP a b c d) = 0 := by
  simp [secGo, nestP, oRun, oLock, oUnl]
theorem nest_locks (a b c d : Int) : locksD (nestP a b c d) = [0, 1] := by
  have h : lockNs (nestP a b c d) = [0, 1] := by simp [lockNs, nestP, oRun, oLock, oUnl]
  exact strict_ext _ _ (locksD_strict _) (by simp) (fun x => by rw [locksD_mem, h])
def nestT (a b c d : Int) : TaskD := ⟨[97], 900, 900, 900, nestP a b c d⟩
theorem nest_ceil (a b c d : Int) : ceilD [nestT a b c d] 3 = [1, 1, 0] := by
  have h0 : hasK [nestT a b c d] 0 0 = true := by simp [hasK, nestT, nest_locks]
  have h1 : hasK [nestT a b c d] 1 0 = true := by simp [hasK, nestT, nest_locks]
  have h2 : hasK [nestT a b c d] 2 0 = false := by simp [hasK, nestT, nest_locks]
  have he : prE [nestT a b c d] 0 = 1 := by simp [prE, rank, befB, dlT, nestT, List.range_succ]
  simp [ceilD, List.range_succ, ceilV, h0, h1, h2, he]
  omega
theorem nest_sec (k : Int) (a b c d : Int) : secD k (fun _ => nestP a b c d) [nestT a b c d] = [min (secGo k 0 0 (nestP a b c d)) (min (a + b + c + d) 900)] := by
  simp [secD, List.range_succ, secV, nestT, nest_cost]
end Go.Proofs.YtembbhbbmkijcaaDoor
