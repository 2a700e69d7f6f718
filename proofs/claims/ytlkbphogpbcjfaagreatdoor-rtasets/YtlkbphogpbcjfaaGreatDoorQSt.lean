/- checkTask, checkTasks, Check, Need, Waits of a set. Check, Need, Waits, Same of a set. -/
import Derived.Test.YtlkbphogpbcjfaaGreatDoorQUf
import Derived.Test.YtlkbphogpbcjfaaGreatDoorQCk
import Derived.Test.YtlkbphogpbcjfaaGreatDoorQbase
namespace Go.Proofs.YtlkbphogpbcjfaaGreatDoor
open Go.RowKit

theorem costD_i64 {p : List OpD} (h : checkP p = (0, 0)) : 0 ≤ costD p ∧ costD p ≤ 512000 := by
  obtain ⟨_, hc, _, f, hb, hf⟩ := taken_prog h
  rw [cost_len hb hc]
  have key : ∀ g : List OpD, (∀ o ∈ g, checkD o = 0) → 0 ≤ costF g ∧ costF g ≤ 1000 * (g.length : Int) := by
    intro g
    induction g with
    | nil => intro _; simp [costF]
    | cons o r ih =>
      intro hg
      have h1 := ih (fun q hq => hg q (by simp [hq]))
      rw [costF, List.length_cons]
      split
      · rename_i hk
        obtain ⟨k, n, v, wt, l⟩ := o
        simp only at hk
        subst hk
        have h2 := run_n (hg ⟨1, n, v, wt, l⟩ (by simp))
        simp only
        omega
      · omega
  have := key f (fun o ho => hc o (bal_mem hb o ho).1)
  omega
end Go.Proofs.YtlkbphogpbcjfaaGreatDoor
namespace Go.Proofs.YtlkbphogpbcjfaaGreatDoor
open Go.RowKit

set_option maxHeartbeats 2000000 in
theorem need_any (nm : List UInt8) (pd dl bu : Int) (pr : List OpD) (pa : Option Addr) (pc : Nat) (w : World) (hA : AtP w pa pr) (hk : checkP pr = (0, 0)) :
    Calls Tryz.prog 16 #[.agg #[.string (B nm), .int .i64 pd, .int .i64 dl, .int .i64 bu, .slice pa pr.length pc]] w fun e w' => e = .returned (.int .i64 (min (costD pr) bu)) ∧ Kept w w' := by
  have K0 := (Kept.refl w).alloc (.cells #[.string (B nm), .int .i64 pd, .int .i64 dl, .int .i64 bu, .slice pa pr.length pc] 58)
  have HB : Hid (Box w.heap.size (w.alloc (.cells #[.string (B nm), .int .i64 pd, .int .i64 dl, .int .i64 bu, .slice pa pr.length pc] 58)) 58 w.heap.size [.string (B nm), .int .i64 pd, .int .i64 dl, .int .i64 bu, .slice pa pr.length pc]) := box_new w.heap.size w 58 [.string (B nm), .int .i64 pd, .int .i64 dl, .int .i64 bu, .slice pa pr.length pc] (Nat.le_refl _) (by simp)
  have hTP := taken_prog hk
  have HCO : Hid (∀ w', Kept w w' → Calls Tryz.prog 30 #[.slice pa pr.length pc] w' fun e w'' => e = .returned (.int .i64 (costD pr)) ∧ Kept w' w'') := fun w' t => cost_any pa pc pr w' (hA.kept t) (by omega) hTP.2.1 hTP.2.2.1
  obtain ⟨z, hz⟩ : ∃ z, costD pr = z := ⟨_, rfl⟩
  rw [hz] at HCO ⊢
  have g3 : (w.alloc (.cells #[.string (B nm), .int .i64 pd, .int .i64 dl, .int .i64 bu, .slice pa pr.length pc] 58)).cell? ⟨w.heap.size, 3, none⟩ = some (.int .i64 bu) := HB.out.cell 3 (by simp)
  have g4 : (w.alloc (.cells #[.string (B nm), .int .i64 pd, .int .i64 dl, .int .i64 bu, .slice pa pr.length pc] 58)).cell? ⟨w.heap.size, 4, none⟩ = some (.slice pa pr.length pc) := HB.out.cell 4 (by simp)
  clear hz hTP hA hk
  go_enter Tryz.func16, Tryz.ntmps16
  go_wp2_with fail
  go_region_held3 (fun w' => w'.cell? ⟨w.heap.size, 3, none⟩ = some (.int .i64 bu) ∧ w'.cell? ⟨w.heap.size, 4, none⟩ = some (.slice pa pr.length pc)) (go_keep) (first | (go_at_call 30; refine (HCO.out _ K0.drew).mono ?_; rintro e w14 ⟨rfl, t14⟩; have K14 := ((Kept.refl _).drew).trans t14; have z3 := K14.cell g3; have z4 := K14.cell g4; have KW := K0.drew.trans t14) | fail)
  go_wp2_with fail
  go_ret
  exact ⟨rfl, KW⟩

end Go.Proofs.YtlkbphogpbcjfaaGreatDoor
