/- CeilNested, walked. -/
import Derived.Test.YtembbhbbmkijcaaDoorNeP
namespace Go.Proofs.YtembbhbbmkijcaaDoor
open Go.RowKit

/-- What Sections tells of one task. -/
structure SecB (args : Array Value) (w : World) (z : Int) : Prop where
  run : ∀ wx, Kept w wx → Calls Tryd.prog 8 args wx fun e w' => ∃ g, e = .returned (.slice (some ⟨g, 0, none⟩) 1 1) ∧ AtI w' (some ⟨g, 0, none⟩) [z] ∧ Kept wx w'
set_option maxHeartbeats 8000000 in
set_option maxRecDepth 20000 in
theorem nested_law (a b c d : Int) (ha0 : 0 ≤ a) (ha1 : a ≤ 255) (hb0 : 0 ≤ b) (hb1 : b ≤ 255) (hc0 : 0 ≤ c) (hc1 : c ≤ 255) (hd0 : 0 ≤ d) (hd1 : d ≤ 255) (w : World) (hr : Rdy w) :
    Calls Tryd.prog 4 #[.int .u8 a, .int .u8 b, .int .u8 c, .int .u8 d] w fun e w' => e = .returned (.bool true) ∧ Kept w w' := by
  have HR : Hid (Rdy w) := hr
  clear hr
  have ba : 1 ≤ 1 + a % 50 ∧ 1 + a % 50 ≤ 50 := by omega
  have bb : 1 ≤ 1 + b % 50 ∧ 1 + b % 50 ≤ 50 := by omega
  have bc : 1 ≤ 1 + c % 50 ∧ 1 + c % 50 ≤ 50 := by omega
  have bd : 1 ≤ 1 + d % 50 ∧ 1 + d % 50 ≤ 50 := by omega
  go_enter Tryd.func4, Tryd.ntmps4
  go_wp2_with fail
  refine (cknown_true w HR.out).mono ?_
  rintro e w1 ⟨rfl, K1⟩
  go_wp2_with fail
  generalize 1 + a % 50 = n0 at *
  generalize 1 + b % 50 = n1 at *
  generalize 1 + c % 50 = n2 at *
  generalize 1 + d % 50 = n3 at *
  have HNB : Hid (Box w.heap.size (w1.alloc (.cells #[.int .i64 n0, .int .i64 n1, .int .i64 n2, .int .i64 n3] 2)) 2 w1.heap.size [.int .i64 n0, .int .i64 n1, .int .i64 n2, .int .i64 n3]) := box_new w.heap.size w1 2 [.int .i64 n0, .int .i64 n1, .int .i64 n2, .int .i64 n3] K1.size (by simp)
  have K2 : Kept w (w1.alloc (.cells #[.int .i64 n0, .int .i64 n1, .int .i64 n2, .int .i64 n3] 2)) := K1.alloc _
  generalize (w1.alloc (.cells #[.int .i64 n0, .int .i64 n1, .int .i64 n2, .int .i64 n3] 2)) = w2 at *
  obtain ⟨nb, hnb⟩ : ∃ x, w1.heap.size = x := ⟨_, rfl⟩
  rw [hnb] at HNB ⊢
  have c0 : w2.cell? ⟨nb, 0, none⟩ = some (.int .i64 n0) := HNB.out.cell 0 (by simp)
  have c1 : w2.cell? ⟨nb, 1, none⟩ = some (.int .i64 n1) := HNB.out.cell 1 (by simp)
  have c2 : w2.cell? ⟨nb, 2, none⟩ = some (.int .i64 n2) := HNB.out.cell 2 (by simp)
  have c3 : w2.cell? ⟨nb, 3, none⟩ = some (.int .i64 n3) := HNB.out.cell 3 (by simp)
  have A0 : Hid (1 ≤ n0 ∧ n0 ≤ 50) := ba
  have A1 : Hid (1 ≤ n1 ∧ n1 ≤ 50) := bb
  have A2 : Hid (1 ≤ n2 ∧ n2 ≤ 50) := bc
  have A3 : Hid (1 ≤ n3 ∧ n3 ≤ 50) := bd
  clear ba bb bc bd hnb
  go_big_region
  all_goals go_wp2_with fail
  have K5 : Kept w (((w2.alloc (.cells #[.int .i64 1, .int .i64 n0, .int .i64 0, .int .i64 0, .slice none 0 0, .int .i64 2, .int .i64 0, .int .i64 0, .int .i64 0, .slice none 0 0, .int .i64 1, .int .i64 n1, .int .i64 0, .int .i64 0, .slice none 0 0, .int .i64 2, .int .i64 1, .int .i64 0, .int .i64 0, .slice none 0 0, .int .i64 1, .int .i64 n2, .int .i64 0, .int .i64 0, .slice none 0 0, .int .i64 3, .int .i64 1, .int .i64 0, .int .i64 0, .slice none 0 0, .int .i64 1, .int .i64 n3, .int .i64 0, .int .i64 0, .slice none 0 0, .int .i64 3, .int .i64 0, .int .i64 0, .int .i64 0, .slice none 0 0] 31)).alloc (.cells #[.string { data := #[97] }, .int .i64 900, .int .i64 900, .int .i64 900, .slice (some ⟨w2.heap.size, 0, none⟩) 8 8] 35)).alloc (.cells #[.int .i64 3, .slice none 0 0, .slice (some ⟨w2.heap.size + 1, 0, none⟩) 1 1] 27)).drew := (((K2.alloc _).alloc _).alloc _).drew
  have KN : Kept w2 (((w2.alloc (.cells #[.int .i64 1, .int .i64 n0, .int .i64 0, .int .i64 0, .slice none 0 0, .int .i64 2, .int .i64 0, .int .i64 0, .int .i64 0, .slice none 0 0, .int .i64 1, .int .i64 n1, .int .i64 0, .int .i64 0, .slice none 0 0, .int .i64 2, .int .i64 1, .int .i64 0, .int .i64 0, .slice none 0 0, .int .i64 1, .int .i64 n2, .int .i64 0, .int .i64 0, .slice none 0 0, .int .i64 3, .int .i64 1, .int .i64 0, .int .i64 0, .slice none 0 0, .int .i64 1, .int .i64 n3, .int .i64 0, .int .i64 0, .slice none 0 0, .int .i64 3, .int .i64 0, .int .i64 0, .int .i64 0, .slice none 0 0] 31)).alloc (.cells #[.string { data := #[97] }, .int .i64 900, .int .i64 900, .int .i64 900, .slice (some ⟨w2.heap.size, 0, none⟩) 8 8] 35)).alloc (.cells #[.int .i64 3, .slice none 0 0, .slice (some ⟨w2.heap.size + 1, 0, none⟩) 1 1] 27)).drew := ((((Kept.refl w2).alloc _).alloc _).alloc _).drew
  have HP : AtP (w2.alloc (.cells #[.int .i64 1, .int .i64 n0, .int .i64 0, .int .i64 0, .slice none 0 0, .int .i64 2, .int .i64 0, .int .i64 0, .int .i64 0, .slice none 0 0, .int .i64 1, .int .i64 n1, .int .i64 0, .int .i64 0, .slice none 0 0, .int .i64 2, .int .i64 1, .int .i64 0, .int .i64 0, .slice none 0 0, .int .i64 1, .int .i64 n2, .int .i64 0, .int .i64 0, .slice none 0 0, .int .i64 3, .int .i64 1, .int .i64 0, .int .i64 0, .slice none 0 0, .int .i64 1, .int .i64 n3, .int .i64 0, .int .i64 0, .slice none 0 0, .int .i64 3, .int .i64 0, .int .i64 0, .int .i64 0, .slice none 0 0] 31)) (some ⟨w2.heap.size, 0, none⟩) (nestP n0 n1 n2 n3) := lit_ops w2 (nestP n0 n1 n2 n3) (fun o ho => by simp only [nestP, List.mem_cons, List.not_mem_nil, or_false] at ho; rcases ho with rfl | rfl | rfl | rfl | rfl | rfl | rfl | rfl <;> rfl) #[.int .i64 1, .int .i64 n0, .int .i64 0, .int .i64 0, .slice none 0 0, .int .i64 2, .int .i64 0, .int .i64 0, .int .i64 0, .slice none 0 0, .int .i64 1, .int .i64 n1, .int .i64 0, .int .i64 0, .slice none 0 0, .int .i64 2, .int .i64 1, .int .i64 0, .int .i64 0, .slice none 0 0, .int .i64 1, .int .i64 n2, .int .i64 0, .int .i64 0, .slice none 0 0, .int .i64 3, .int .i64 1, .int .i64 0, .int .i64 0, .slice none 0 0, .int .i64 1, .int .i64 n3, .int .i64 0, .int .i64 0, .slice none 0 0, .int .i64 3, .int .i64 0, .int .i64 0, .int .i64 0, .slice none 0 0] rfl
  have HTB : Box w.heap.size ((w2.alloc (.cells #[.int .i64 1, .int .i64 n0, .int .i64 0, .int .i64 0, .slice none 0 0, .int .i64 2, .int .i64 0, .int .i64 0, .int .i64 0, .slice none 0 0, .int .i64 1, .int .i64 n1, .int .i64 0, .int .i64 0, .slice none 0 0, .int .i64 2, .int .i64 1, .int .i64 0, .int .i64 0, .slice none 0 0, .int .i64 1, .int .i64 n2, .int .i64 0, .int .i64 0, .slice none 0 0, .int .i64 3, .int .i64 1, .int .i64 0, .int .i64 0, .slice none 0 0, .int .i64 1, .int .i64 n3, .int .i64 0, .int .i64 0, .slice none 0 0, .int .i64 3, .int .i64 0, .int .i64 0, .int .i64 0, .slice none 0 0] 31)).alloc (.cells #[.string { data := #[97] }, .int .i64 900, .int .i64 900, .int .i64 900, .slice (some ⟨w2.heap.size, 0, none⟩) 8 8] 35)) 35 (w2.heap.size + 1) [.string (B [97]), .int .i64 900, .int .i64 900, .int .i64 900, .slice (some ⟨w2.heap.size, 0, none⟩) 8 8] := by
    have h := box_new w.heap.size (w2.alloc (.cells #[.int .i64 1, .int .i64 n0, .int .i64 0, .int .i64 0, .slice none 0 0, .int .i64 2, .int .i64 0, .int .i64 0, .int .i64 0, .slice none 0 0, .int .i64 1, .int .i64 n1, .int .i64 0, .int .i64 0, .slice none 0 0, .int .i64 2, .int .i64 1, .int .i64 0, .int .i64 0, .slice none 0 0, .int .i64 1, .int .i64 n2, .int .i64 0, .int .i64 0, .slice none 0 0, .int .i64 3, .int .i64 1, .int .i64 0, .int .i64 0, .slice none 0 0, .int .i64 1, .int .i64 n3, .int .i64 0, .int .i64 0, .slice none 0 0, .int .i64 3, .int .i64 0, .int .i64 0, .int .i64 0, .slice none 0 0] 31)) 35 [.string (B [97]), .int .i64 900, .int .i64 900, .int .i64 900, .slice (some ⟨w2.heap.size, 0, none⟩) 8 8] ((K2.alloc _).size) (by simp)
    rw [show (w2.alloc (.cells #[.int .i64 1, .int .i64 n0, .int .i64 0, .int .i64 0, .slice none 0 0, .int .i64 2, .int .i64 0, .int .i64 0, .int .i64 0, .slice none 0 0, .int .i64 1, .int .i64 n1, .int .i64 0, .int .i64 0, .slice none 0 0, .int .i64 2, .int .i64 1, .int .i64 0, .int .i64 0, .slice none 0 0, .int .i64 1, .int .i64 n2, .int .i64 0, .int .i64 0, .slice none 0 0, .int .i64 3, .int .i64 1, .int .i64 0, .int .i64 0, .slice none 0 0, .int .i64 1, .int .i64 n3, .int .i64 0, .int .i64 0, .slice none 0 0, .int .i64 3, .int .i64 0, .int .i64 0, .int .i64 0, .slice none 0 0] 31)).heap.size = w2.heap.size + 1 by simp] at h
    exact h
  have HTT : Hid (AtT (((w2.alloc (.cells #[.int .i64 1, .int .i64 n0, .int .i64 0, .int .i64 0, .slice none 0 0, .int .i64 2, .int .i64 0, .int .i64 0, .int .i64 0, .slice none 0 0, .int .i64 1, .int .i64 n1, .int .i64 0, .int .i64 0, .slice none 0 0, .int .i64 2, .int .i64 1, .int .i64 0, .int .i64 0, .slice none 0 0, .int .i64 1, .int .i64 n2, .int .i64 0, .int .i64 0, .slice none 0 0, .int .i64 3, .int .i64 1, .int .i64 0, .int .i64 0, .slice none 0 0, .int .i64 1, .int .i64 n3, .int .i64 0, .int .i64 0, .slice none 0 0, .int .i64 3, .int .i64 0, .int .i64 0, .int .i64 0, .slice none 0 0] 31)).alloc (.cells #[.string { data := #[97] }, .int .i64 900, .int .i64 900, .int .i64 900, .slice (some ⟨w2.heap.size, 0, none⟩) 8 8] 35)).alloc (.cells #[.int .i64 3, .slice none 0 0, .slice (some ⟨w2.heap.size + 1, 0, none⟩) 1 1] 27)).drew (some ⟨w2.heap.size + 1, 0, none⟩) [nestT n0 n1 n2 n3]) := (one_at (p1 := nestP n0 n1 n2 n3) HTB (HP.kept ((Kept.refl _).alloc _)) (by simp [nestP])).kept (((Kept.refl _).alloc _).drew)
  have HSB : Hid (Box w.heap.size (((w2.alloc (.cells #[.int .i64 1, .int .i64 n0, .int .i64 0, .int .i64 0, .slice none 0 0, .int .i64 2, .int .i64 0, .int .i64 0, .int .i64 0, .slice none 0 0, .int .i64 1, .int .i64 n1, .int .i64 0, .int .i64 0, .slice none 0 0, .int .i64 2, .int .i64 1, .int .i64 0, .int .i64 0, .slice none 0 0, .int .i64 1, .int .i64 n2, .int .i64 0, .int .i64 0, .slice none 0 0, .int .i64 3, .int .i64 1, .int .i64 0, .int .i64 0, .slice none 0 0, .int .i64 1, .int .i64 n3, .int .i64 0, .int .i64 0, .slice none 0 0, .int .i64 3, .int .i64 0, .int .i64 0, .int .i64 0, .slice none 0 0] 31)).alloc (.cells #[.string { data := #[97] }, .int .i64 900, .int .i64 900, .int .i64 900, .slice (some ⟨w2.heap.size, 0, none⟩) 8 8] 35)).alloc (.cells #[.int .i64 3, .slice none 0 0, .slice (some ⟨w2.heap.size + 1, 0, none⟩) 1 1] 27)).drew 27 (w2.heap.size + 1 + 1) [.int .i64 3, .slice none 0 0, .slice (some ⟨w2.heap.size + 1, 0, none⟩) 1 1]) := by
    have h := box_new w.heap.size ((w2.alloc (.cells #[.int .i64 1, .int .i64 n0, .int .i64 0, .int .i64 0, .slice none 0 0, .int .i64 2, .int .i64 0, .int .i64 0, .int .i64 0, .slice none 0 0, .int .i64 1, .int .i64 n1, .int .i64 0, .int .i64 0, .slice none 0 0, .int .i64 2, .int .i64 1, .int .i64 0, .int .i64 0, .slice none 0 0, .int .i64 1, .int .i64 n2, .int .i64 0, .int .i64 0, .slice none 0 0, .int .i64 3, .int .i64 1, .int .i64 0, .int .i64 0, .slice none 0 0, .int .i64 1, .int .i64 n3, .int .i64 0, .int .i64 0, .slice none 0 0, .int .i64 3, .int .i64 0, .int .i64 0, .int .i64 0, .slice none 0 0] 31)).alloc (.cells #[.string { data := #[97] }, .int .i64 900, .int .i64 900, .int .i64 900, .slice (some ⟨w2.heap.size, 0, none⟩) 8 8] 35)) 27 [.int .i64 3, .slice none 0 0, .slice (some ⟨w2.heap.size + 1, 0, none⟩) 1 1] (((K2.alloc _).alloc _).size) (by simp)
    rw [show ((w2.alloc (.cells #[.int .i64 1, .int .i64 n0, .int .i64 0, .int .i64 0, .slice none 0 0, .int .i64 2, .int .i64 0, .int .i64 0, .int .i64 0, .slice none 0 0, .int .i64 1, .int .i64 n1, .int .i64 0, .int .i64 0, .slice none 0 0, .int .i64 2, .int .i64 1, .int .i64 0, .int .i64 0, .slice none 0 0, .int .i64 1, .int .i64 n2, .int .i64 0, .int .i64 0, .slice none 0 0, .int .i64 3, .int .i64 1, .int .i64 0, .int .i64 0, .slice none 0 0, .int .i64 1, .int .i64 n3, .int .i64 0, .int .i64 0, .slice none 0 0, .int .i64 3, .int .i64 0, .int .i64 0, .int .i64 0, .slice none 0 0] 31)).alloc (.cells #[.string { data := #[97] }, .int .i64 900, .int .i64 900, .int .i64 900, .slice (some ⟨w2.heap.size, 0, none⟩) 8 8] 35)).heap.size = w2.heap.size + 1 + 1 by simp] at h
    exact h.kept ((Kept.refl _).drew)
  have HNN := HNB.out.kept KN
  clear HP HTB c0 c1 c2 c3
  generalize (((w2.alloc (.cells #[.int .i64 1, .int .i64 n0, .int .i64 0, .int .i64 0, .slice none 0 0, .int .i64 2, .int .i64 0, .int .i64 0, .int .i64 0, .slice none 0 0, .int .i64 1, .int .i64 n1, .int .i64 0, .int .i64 0, .slice none 0 0, .int .i64 2, .int .i64 1, .int .i64 0, .int .i64 0, .slice none 0 0, .int .i64 1, .int .i64 n2, .int .i64 0, .int .i64 0, .slice none 0 0, .int .i64 3, .int .i64 1, .int .i64 0, .int .i64 0, .slice none 0 0, .int .i64 1, .int .i64 n3, .int .i64 0, .int .i64 0, .slice none 0 0, .int .i64 3, .int .i64 0, .int .i64 0, .int .i64 0, .slice none 0 0] 31)).alloc (.cells #[.string { data := #[97] }, .int .i64 900, .int .i64 900, .int .i64 900, .slice (some ⟨w2.heap.size, 0, none⟩) 8 8] 35)).alloc (.cells #[.int .i64 3, .slice none 0 0, .slice (some ⟨w2.heap.size + 1, 0, none⟩) 1 1] 27)).drew = wA at *
  obtain ⟨tb, htb⟩ : ∃ x, w2.heap.size + 1 = x := ⟨_, rfl⟩
  rw [htb] at HTT HSB ⊢
  obtain ⟨sb, hsb⟩ : ∃ x, tb + 1 = x := ⟨_, rfl⟩
  rw [hsb] at HSB ⊢
  have hck : ∀ t ∈ [nestT n0 n1 n2 n3], checkP t.prog = (0, 0) := by intro t ht; rw [List.mem_singleton] at ht; subst ht; exact nest_check A0.out A1.out A2.out A3.out
  have hbal : ∀ (i : Nat) (t : TaskD), [nestT n0 n1 n2 n3][i]? = some t → Bal 3 0 0 t.prog ((fun _ => nestP n0 n1 n2 n3) i) := by
    intro i t hi
    match i, hi with
    | 0, hi => cases hi; exact nest_bal _ _ _ _
    | i + 1, hi => simp at hi
  obtain ⟨z0, hz0⟩ : ∃ z, n1 + n2 + n3 = z := ⟨_, rfl⟩
  have HS0 : Hid (SecB #[.agg #[.int .i64 3, .slice none 0 0, .slice (some ⟨tb, 0, none⟩) 1 1], .int .i64 0] wA z0) := ⟨fun wx kx => by
    have h := sections_any 3 0 none (some ⟨tb, 0, none⟩) 0 0 1 [nestT n0 n1 n2 n3] (fun _ => nestP n0 n1 n2 n3) wx (HR.out.kept (K5.trans kx)) (HTT.out.kept kx) (by simp) hck hbal (by decide) (by decide)
    rw [nest_sec, nest_sec0 A1.out.1 A2.out.1 A3.out.1, show min (n1 + n2 + n3) (min (n0 + n1 + n2 + n3) 900) = n1 + n2 + n3 by have := A0.out; have := A1.out; have := A2.out; have := A3.out; omega, hz0] at h
    exact h⟩
  have HS1 : Hid (SecB #[.agg #[.int .i64 3, .slice none 0 0, .slice (some ⟨tb, 0, none⟩) 1 1], .int .i64 1] wA n2) := ⟨fun wx kx => by
    have h := sections_any 3 1 none (some ⟨tb, 0, none⟩) 0 0 1 [nestT n0 n1 n2 n3] (fun _ => nestP n0 n1 n2 n3) wx (HR.out.kept (K5.trans kx)) (HTT.out.kept kx) (by simp) hck hbal (by decide) (by decide)
    rw [nest_sec, nest_sec1 A2.out.1, show min n2 (min (n0 + n1 + n2 + n3) 900) = n2 by have := A0.out; have := A1.out; have := A2.out; have := A3.out; omega] at h
    exact h⟩
  have HS2 : Hid (SecB #[.agg #[.int .i64 3, .slice none 0 0, .slice (some ⟨tb, 0, none⟩) 1 1], .int .i64 2] wA 0) := ⟨fun wx kx => by
    have h := sections_any 3 2 none (some ⟨tb, 0, none⟩) 0 0 1 [nestT n0 n1 n2 n3] (fun _ => nestP n0 n1 n2 n3) wx (HR.out.kept (K5.trans kx)) (HTT.out.kept kx) (by simp) hck hbal (by decide) (by decide)
    rw [nest_sec, nest_sec2, show min (0 : Int) (min (n0 + n1 + n2 + n3) 900) = 0 by have := A0.out; have := A1.out; have := A2.out; have := A3.out; omega] at h
    exact h⟩
  have HOF : Hid (∀ wx, Kept wA wx → Calls Tryd.prog 7 #[.agg #[.int .i64 3, .slice none 0 0, .slice (some ⟨tb, 0, none⟩) 1 1]] wx fun e w' => ∃ g, e = .returned (.slice (some ⟨g, 0, none⟩) 3 3) ∧ AtI w' (some ⟨g, 0, none⟩) [1, 1, 0] ∧ Kept wx w') := fun wx kx => by
    have h := of_any 3 none (some ⟨tb, 0, none⟩) 0 0 1 [nestT n0 n1 n2 n3] wx (HTT.out.kept kx) (fun t ht => by rw [List.mem_singleton] at ht; subst ht; exact ⟨by simp [nestT], by simp [nestT, nestP], fun o ho => by simp only [nestT, nestP, List.mem_cons, List.not_mem_nil, or_false] at ho; rcases ho with rfl | rfl | rfl | rfl | rfl | rfl | rfl | rfl <;> simp [oRun, oLock, oUnl]⟩) (by simp) (by simp) (by decide)
    rw [nest_ceil] at h
    exact h
  have x0 : wA.cell? ⟨sb, 0, none⟩ = some (.int .i64 3) := HSB.out.cell 0 (by simp)
  have x1 : wA.cell? ⟨sb, 1, none⟩ = some (.slice none 0 0) := HSB.out.cell 1 (by simp)
  have x2 : wA.cell? ⟨sb, 2, none⟩ = some (.slice (some ⟨tb, 0, none⟩) 1 1) := HSB.out.cell 2 (by simp)
  have MD : Kept wA wA.drew := (Kept.refl wA).drew
  have HZ0 : Hid (n1 + n2 + n3 = z0) := hz0
  have HNX : Hid (Box w.heap.size wA 2 nb [.int .i64 n0, .int .i64 n1, .int .i64 n2, .int .i64 n3]) := HNN
  clear hck hbal htb hsb HNN HTT hz0
  go_region_held3 (fun w' => w'.cell? ⟨sb, 0, none⟩ = some (.int .i64 3) ∧ w'.cell? ⟨sb, 1, none⟩ = some (.slice none 0 0) ∧ w'.cell? ⟨sb, 2, none⟩ = some (.slice (some ⟨tb, 0, none⟩) 1 1)) (go_keep) (first | (have hgx := M4; go_at_call 8; refine (HS2.out.run _ M4).mono ?_; rintro e w5 ⟨g5, rfl, B5, T5⟩; have M5 := M4.trans T5; have G5 := B5; have y5x0 := M5.cell x0; have y5x1 := M5.cell x1; have y5x2 := M5.cell x2) | (have hgx := M3; go_at_call 8; refine (HS1.out.run _ M3).mono ?_; rintro e w4 ⟨g4, rfl, B4, T4⟩; have M4 := M3.trans T4; have G4 := B4; have y4x0 := M4.cell x0; have y4x1 := M4.cell x1; have y4x2 := M4.cell x2) | (go_at_call 8; refine (HS0.out.run _ MD).mono ?_; rintro e w3 ⟨g3, rfl, B3, T3⟩; have M3 := MD.trans T3; have G3 := B3; have y3x0 := M3.cell x0; have y3x1 := M3.cell x1; have y3x2 := M3.cell x2) | fail)
  go_wp2_with fail
  refine (HOF.out _ M5).mono ?_
  rintro e w6 ⟨g6, rfl, B6, T6⟩
  have M6 := M5.trans T6
  have hz0 := HZ0.out
  have p1 : w6.cell? ⟨nb, 1, none⟩ = some (.int .i64 n1) := (HNX.out.kept M6).cell 1 (by simp)
  have p2 : w6.cell? ⟨nb, 2, none⟩ = some (.int .i64 n2) := (HNX.out.kept M6).cell 2 (by simp)
  have p3 : w6.cell? ⟨nb, 3, none⟩ = some (.int .i64 n3) := (HNX.out.kept M6).cell 3 (by simp)
  have q3 : w6.cell? ⟨g3, 0, none⟩ = some (.int .i64 z0) := T6.cell (T5.cell (T4.cell (by obtain ⟨b, f, e, h⟩ := G3 0 z0 rfl; cases e; exact h)))
  have q4 : w6.cell? ⟨g4, 0, none⟩ = some (.int .i64 n2) := T6.cell (T5.cell (by obtain ⟨b, f, e, h⟩ := G4 0 n2 rfl; cases e; exact h))
  have q5 : w6.cell? ⟨g5, 0, none⟩ = some (.int .i64 0) := T6.cell (by obtain ⟨b, f, e, h⟩ := G5 0 0 rfl; cases e; exact h)
  have u0 : w6.cell? ⟨g6, 0, none⟩ = some (.int .i64 1) := by obtain ⟨b, f, e, h⟩ := B6 0 1 rfl; cases e; exact h
  have u1 : w6.cell? ⟨g6, 1, none⟩ = some (.int .i64 1) := by obtain ⟨b, f, e, h⟩ := B6 1 1 rfl; cases e; exact h
  have u2 : w6.cell? ⟨g6, 2, none⟩ = some (.int .i64 0) := by obtain ⟨b, f, e, h⟩ := B6 2 0 rfl; cases e; exact h
  have KF := K5.trans M6
  have e1 := A1.out
  have e2 := A2.out
  have e3 := A3.out
  subst hz0
  clear x0 x1 x2 y3x0 y3x1 y3x2 y4x0 y4x1 y4x2 y5x0 y5x1 y5x2 B3 B4 B5 B6 G3 G4 G5 T3 T4 T5 T6 M3 M4 M5 M6 MD
  go_wp2_with fail
  simp only [List.append]
  go_big_region
  all_goals go_wp2_with fail
  go_ret
  exact ⟨rfl, KF.drew⟩
end Go.Proofs.YtembbhbbmkijcaaDoor
