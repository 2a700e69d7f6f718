/- Ints, of the law's package; ops as they are written. -/
import Derived.Test.YtembbhbbmkijcaaDoorLck2
import Derived.Test.YtembbhbbmkijcaaDoorORw
namespace Go.Proofs.YtembbhbbmkijcaaDoor
open Go.RowKit

set_option maxHeartbeats 2000000 in
theorem ints_any (a b : Option Addr) (c d : Nat) (l m : List Int) (w : World) (hA : AtI w a l) (hB : AtI w b m) (hl : l.length ≤ 100000) (_hml : m.length ≤ 100000) :
    Calls Tryd.prog 6 #[.slice a l.length c, .slice b m.length d] w fun e w' => e = .returned (.bool (decide (l = m))) ∧ Kept w w' := by
  have HA : Hid (AtI w a l) := hA
  have HB : Hid (AtI w b m) := hB
  clear hA hB
  by_cases hlm : l.length = m.length
  · have hne : ((l.length : Int) != (m.length : Int)) = false := by simp [hlm]
    go_enter Tryd.func6, Tryd.ntmps6
    go_wp2_with fail
    go_loopg [5] l.length (fun gk i wr => ∃ j : Nat, i = .int .i64 j ∧ j + gk = l.length ∧ Hid (l.take j = m.take j) ∧ Kept w wr)
    case atStart => exact ⟨0, rfl, by omega, (by show _ = _; simp), Kept.refl w⟩
    case round =>
      obtain ⟨j, rfl, hj, HE, K⟩ := hrel
      by_cases hjp : j < l.length
      · obtain ⟨x, hx⟩ : ∃ x, l[j]? = some x := ⟨_, List.getElem?_eq_getElem hjp⟩
        obtain ⟨y, hy⟩ : ∃ y, m[j]? = some y := ⟨_, List.getElem?_eq_getElem (by omega)⟩
        obtain ⟨b1, f1, rfl, c1⟩ := (HA.out.kept K) j x hx
        obtain ⟨b2, f2, rfl, c2⟩ := (HB.out.kept K) j y hy
        have r1 : (j : Int) < (l.length : Int) := by omega
        have r2 : (j : Int) < (m.length : Int) := by omega
        have r3 : (0 : Int) ≤ (j : Int) := by omega
        obtain ⟨g3', rfl⟩ : ∃ g, gk = g + 1 := ⟨gk - 1, by omega⟩
        by_cases hxy : x = y
        · subst hxy
          have hq : (x != x) = false := by simp
          have HE2 : Hid (l.take (j + 1) = m.take (j + 1)) := by show _ = _; rw [List.take_add_one, List.take_add_one, hx, hy, HE.out]
          clear hx hy HE
          go_wp2_with fail
          go_region_held3 (fun w' => w'.cell? ⟨b1, f1 + j, none⟩ = some (.int .i64 x) ∧ w'.cell? ⟨b2, f2 + j, none⟩ = some (.int .i64 x)) (go_keep) (fail)
          go_wp2_with fail
          go_roundg g3'
          case rel => exact ⟨j + 1, by go_num, by omega, HE2, K.drew⟩
          case measure => omega
        · have hq : (x != y) = true := by simp [hxy]
          have HD : Hid (decide (l = m) = false) := by
            refine decide_eq_false (fun e => hxy ?_)
            rw [e, hy] at hx
            exact (Option.some.inj hx).symm
          clear hx hy HE hxy
          go_wp2_with fail
          go_region_held3 (fun w' => w'.cell? ⟨b1, f1 + j, none⟩ = some (.int .i64 x) ∧ w'.cell? ⟨b2, f2 + j, none⟩ = some (.int .i64 y)) (go_keep) (fail)
          go_wp2_with fail
          go_ret
          rw [HD.out]
          exact ⟨rfl, K.drew⟩
      · have r1 : ¬ (j : Int) < (l.length : Int) := by omega
        have HD : Hid (decide (l = m) = true) := by
          refine decide_eq_true ?_
          have h := HE.out
          rw [List.take_of_length_le (by omega), List.take_of_length_le (by omega)] at h
          exact h
        go_wp2_with fail
        go_ret
        rw [HD.out]
        exact ⟨rfl, K⟩
  · have hne : ((l.length : Int) != (m.length : Int)) = true := by simp; omega
    have HD : Hid (decide (l = m) = false) := decide_eq_false (fun e => hlm (by rw [e]))
    go_enter Tryd.func6, Tryd.ntmps6
    go_wp2_with fail
    go_ret
    rw [HD.out]
    exact ⟨rfl, Kept.refl w⟩
/-- Ops that stand as they are written. -/
theorem lit_ops (w : World) (ps : List OpD) (hc : ∀ o ∈ ps, o.cases = []) (cells : Array Value) (h : cells = (flatO ps (ps.map fun _ => .slice none 0 0)).toArray) : AtP (w.alloc (.cells cells 31)) (some ⟨w.heap.size, 0, none⟩) ps := by
  subst h
  intro j o hj
  refine ⟨w.heap.size, 0, rfl, ?_⟩
  have hs : (ps.map fun _ => Value.slice none 0 0)[j]? = some (.slice none 0 0) := by rw [List.getElem?_map, hj]; rfl
  have hcell : ∀ i, i < 5 → (w.alloc (.cells (flatO ps (ps.map fun _ => .slice none 0 0)).toArray 31)).cell? ⟨w.heap.size, 0 + j * 5 + i, none⟩ = (opV o (.slice none 0 0))[i]? := by
    intro i hi
    rw [World.cell?_alloc_at _ _ _ _ rfl, Nat.zero_add]
    have := flatO_get ps _ j i o _ hj hs hi
    simpa using this
  have hco := hc o (List.mem_of_getElem? hj)
  refine ⟨hcell 0 (by omega), hcell 1 (by omega), hcell 2 (by omega), hcell 3 (by omega), none, 0, ?_, by rw [hco]; simp, fun _ => rfl, ?_⟩
  · rw [hco]
    exact hcell 4 (by omega)
  · rw [hco]
    exact AtC.none _
end Go.Proofs.YtembbhbbmkijcaaDoor
