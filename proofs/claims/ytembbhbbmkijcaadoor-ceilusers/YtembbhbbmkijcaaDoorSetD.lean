/- Check, Need, Waits, Same of a set. -/
import Derived.Test.YtembbhbbmkijcaaDoorSetC
namespace Go.Proofs.YtembbhbbmkijcaaDoor
open Go.RowKit

set_option maxHeartbeats 2000000 in
theorem need_any (nm : List UInt8) (pd dl bu : Int) (pr : List OpD) (pa : Option Addr) (pc : Nat) (w : World) (hA : AtP w pa pr) (hk : checkP pr = (0, 0)) :
    Calls Tryd.prog 15 #[.agg #[.string (B nm), .int .i64 pd, .int .i64 dl, .int .i64 bu, .slice pa pr.length pc]] w fun e w' => e = .returned (.int .i64 (min (costD pr) bu)) ∧ Kept w w' := by
  have K0 := (Kept.refl w).alloc (.cells #[.string (B nm), .int .i64 pd, .int .i64 dl, .int .i64 bu, .slice pa pr.length pc] 35)
  have HB : Hid (Box w.heap.size (w.alloc (.cells #[.string (B nm), .int .i64 pd, .int .i64 dl, .int .i64 bu, .slice pa pr.length pc] 35)) 35 w.heap.size [.string (B nm), .int .i64 pd, .int .i64 dl, .int .i64 bu, .slice pa pr.length pc]) := box_new w.heap.size w 35 [.string (B nm), .int .i64 pd, .int .i64 dl, .int .i64 bu, .slice pa pr.length pc] (Nat.le_refl _) (by simp)
  have hTP := taken_prog hk
  have HCO : Hid (∀ w', Kept w w' → Calls Tryd.prog 23 #[.slice pa pr.length pc] w' fun e w'' => e = .returned (.int .i64 (costD pr)) ∧ Kept w' w'') := fun w' t => cost_any pa pc pr w' (hA.kept t) (by omega) hTP.2.1 hTP.2.2.1
  obtain ⟨z, hz⟩ : ∃ z, costD pr = z := ⟨_, rfl⟩
  rw [hz] at HCO ⊢
  have g3 : (w.alloc (.cells #[.string (B nm), .int .i64 pd, .int .i64 dl, .int .i64 bu, .slice pa pr.length pc] 35)).cell? ⟨w.heap.size, 3, none⟩ = some (.int .i64 bu) := HB.out.cell 3 (by simp)
  have g4 : (w.alloc (.cells #[.string (B nm), .int .i64 pd, .int .i64 dl, .int .i64 bu, .slice pa pr.length pc] 35)).cell? ⟨w.heap.size, 4, none⟩ = some (.slice pa pr.length pc) := HB.out.cell 4 (by simp)
  clear hz hTP hA hk
  go_enter Tryd.func15, Tryd.ntmps15
  go_wp2_with fail
  go_region_held3 (fun w' => w'.cell? ⟨w.heap.size, 3, none⟩ = some (.int .i64 bu) ∧ w'.cell? ⟨w.heap.size, 4, none⟩ = some (.slice pa pr.length pc)) (go_keep) (first | (go_at_call 23; refine (HCO.out _ K0.drew).mono ?_; rintro e w14 ⟨rfl, t14⟩; have K14 := ((Kept.refl _).drew).trans t14; have z3 := K14.cell g3; have z4 := K14.cell g4; have KW := K0.drew.trans t14) | fail)
  go_wp2_with fail
  go_ret
  exact ⟨rfl, KW⟩

end Go.Proofs.YtembbhbbmkijcaaDoor
