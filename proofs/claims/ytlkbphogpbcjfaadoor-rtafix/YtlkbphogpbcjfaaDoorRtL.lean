/- Loads as the document's. -/
import Derived.Test.YtlkbphogpbcjfaaDoorRtM
namespace Go.Proofs.YtlkbphogpbcjfaaDoor
open Go.RowKit Go.Sort

set_option maxHeartbeats 2000000 in
set_option maxRecDepth 10000 in
theorem loads_any (a : Option Addr) (c : Nat) (l : List LoadD) (w : World) (hA : AtL w a l) (hl : l.length ≤ 1000) :
    Calls Tryd.prog 11 #[.slice a l.length c] w (LdOut w l) := by
  have HA : Hid (AtL w a l) := hA
  clear hA
  go_enter Tryd.func11, Tryd.ntmps11
  go_wp2_with fail
  go_loopg [3, 4] l.length (fun gk v i wr => ∃ (j : Nat) (v0 : Value) (W : World), W = wr ∧ v0 = v ∧ i = .int .i64 j ∧ j + gk = l.length ∧ Hid (LdRow 52 w.heap.size W v0 (l.take j)) ∧ Kept w W)
  case atStart => exact ⟨0, _, _, rfl, rfl, rfl, by omega, LdRow.nil _ _ _, Kept.refl _⟩
  case round =>
    obtain ⟨j, v0, W, hW, hv, rfl, hj, HR, K⟩ := hrel
    subst hW
    subst hv
    by_cases hjn : j < l.length
    · have b1 : (j : Int) < (l.length : Int) := by omega
      have b2 : (0 : Int) ≤ (j : Int) := by omega
      obtain ⟨g, rfl⟩ : ∃ g, gk = g + 1 := ⟨gk - 1, by omega⟩
      obtain ⟨⟨pp, cc⟩, hx⟩ : ∃ x, l[j]? = some x := ⟨_, List.getElem?_eq_getElem hjn⟩
      obtain ⟨b, f, rfl, c0w, c1w⟩ := HA.out j _ hx
      simp only at c0w c1w
      have c0 := K.cell c0w
      have c1 := K.cell c1w
      have HTK : Hid (l.take (j + 1) = l.take j ++ [⟨pp, cc⟩]) := by show _ = _; rw [List.take_add_one, hx]; rfl
      have hlen : (l.take j).length ≤ 1000000 := by rw [List.length_take]; omega
      have HRD : LdRow 52 w.heap.size W.drew v0 (l.take j) := HR.out.kept ((Kept.refl W).drew)
      have KD : Kept w W.drew := K.drew
      have hml : min j l.length = j := by omega
      clear hx
      go_wp2_with fail
      go_region_held3 (fun w' => w'.cell? ⟨b, f + j * 2, none⟩ = some (.int .i64 pp) ∧ w'.cell? ⟨b, f + j * 2 + 1, none⟩ = some (.int .i64 cc)) (go_keep) (first | (refine step_append_ld lRef _ (by rfl) _ _ (by rfl) w.heap.size v0 (l.take j) ⟨pp, cc⟩ _ rfl W.drew (by rfl) (by rfl) W.drew.heap.size (by rfl) (by rfl) HRD hlen KD.size ?_; intro g5 c5 w5 R5 t5 hg5; have K5 : Kept w w5 := t5.kept KD (fun i hi => (World.ownsRow.lt HRD i hi).1); have z0 := K5.cell c0w; have z1 := K5.cell c1w) | fail)
      all_goals go_wp2_with fail
      go_roundg g
      case rel =>
        rw [← HTK.out, List.length_take, hml] at R5
        exact ⟨j + 1, .slice (some ⟨g5, 0, none⟩) (j + 1) c5, _, rfl, rfl, by go_num, by omega, R5, K5⟩
      case measure => omega
    · have b1 : ¬ (j : Int) < (l.length : Int) := by omega
      obtain ⟨va, vc, rfl, hvc, A, _⟩ := HR.out.view
      rw [List.take_of_length_le (by omega)] at A
      have HV : Hid (AtL W va l) := A
      have hml : (l.take j).length = l.length := by rw [List.length_take]; omega
      clear A hvc HR
      go_wp2_with fail
      go_ret
      exact ⟨va, vc, by rw [← hml]; rfl, HV.out, K⟩
end Go.Proofs.YtlkbphogpbcjfaaDoor
