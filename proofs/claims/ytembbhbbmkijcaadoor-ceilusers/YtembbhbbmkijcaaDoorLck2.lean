/- Locks, walked; Ints. -/
import Derived.Test.YtembbhbbmkijcaaDoorLck
namespace Go.Proofs.YtembbhbbmkijcaaDoor
open Go.RowKit

theorem compact_len (zs : List Int) : (Lib.compact zs).length ≤ zs.length := by
  unfold Lib.compact Lib.compactUpTo
  rw [List.length_map]
  have := List.length_filter_le (Lib.keeps zs.toArray) (List.range zs.length)
  simpa using this
/-- A row of numbers grows behind a struct of its own. -/
theorem irow_app {w wr w' : World} {v1 : Value} {l : List Int} {g n c : Nat} {o1 o2 : Obj} {l' : List Int} (h : IRow 3 w.heap.size wr v1 l) (K : Kept w wr) (gr : ((wr.alloc o1).alloc o2).grownBy w' v1.ownBlock) (r : IRow 3 w.heap.size w' (.slice (some ⟨g, 0, none⟩) n c) l') : Kept w w' := by
  have _ := r
  have t : Turns (fun k => v1.ownBlock = some k) wr w' := (((Turns.refl _ wr).alloc o1).alloc o2).trans (Turns.grown gr (fun k e => e))
  exact t.kept K (fun i hi => (World.ownsRow.lt h i hi).1)

set_option maxHeartbeats 4000000 in
set_option maxRecDepth 10000 in
theorem locks_any (a : Option Addr) (c : Nat) (p : List OpD) (w : World) (hA : AtP w a p) (hp : p.length ≤ 100000) :
    Calls Tryd.prog 21 #[.slice a p.length c] w fun e w' => ∃ va vc, e = .returned (.slice va (locksD p).length vc) ∧ AtI w' va (locksD p) ∧ Kept w w' := by
  have HA : Hid (AtP w a p) := hA
  clear hA
  go_enter Tryd.func21, Tryd.ntmps21
  go_wp2_with fail
  go_loopg [3, 8] p.length (fun gk x3 i wr => ∃ (j : Nat) (v : Value), v = x3 ∧ i = .int .i64 j ∧ j + gk = p.length ∧ Hid (IRow 3 w.heap.size wr v (lockNs (p.take j))) ∧ Kept w wr)
  case atStart => exact ⟨0, _, rfl, rfl, by omega, IRow.nil _ _ _, Kept.refl w⟩
  case round =>
    obtain ⟨j, v3, hx3, rfl, hj, HM, K⟩ := hrel
    subst hx3
    by_cases hjp : j < p.length
    · obtain ⟨b, f, k, n, v, wt, l, ca, cc, rfl, hpj, g0, g1, g2, g3, g4, hcc, hat, hbl, hdr⟩ := (HA.out.kept K).get j hjp
      have b1 : (j : Int) < (p.length : Int) := by omega
      have b2 : (0 : Int) ≤ (j : Int) := by omega
      have HN := lockNs_next p j _ hpj
      simp only at HN
      have KA := K.alloc (.cells #[.int .i64 k, .int .i64 n, .int .i64 v, .int .i64 wt, .slice ca l.length cc] 31)
      obtain ⟨g3', rfl⟩ : ∃ g, gk = g + 1 := ⟨gk - 1, by omega⟩
      have hln : (lockNs (p.take j)).length ≤ 1000000 := by have := lockNs_len (p.take j); rw [List.length_take] at this; omega
      have hlb : w.heap.size ≤ (wr.alloc (.cells #[.int .i64 k, .int .i64 n, .int .i64 v, .int .i64 wt, .slice ca l.length cc] 31)).heap.size := KA.size
      clear hpj hat hdr
      by_cases h2 : k = 2
      · subst h2
        rw [if_pos rfl] at HN
        have HN2 : Hid (lockNs (p.take (j + 1)) = lockNs (p.take j) ++ [n]) := HN
        clear HN
        go_wp2_with (at_builtin; refine wpList_append_int nInt _ (by rfl) _ _ rfl w.heap.size v3 (lockNs (p.take j)) n (wr.alloc (.cells #[.int .i64 2, .int .i64 n, .int .i64 v, .int .i64 wt, .slice ca l.length cc] 31)) (by rfl) (by rfl) (wr.heap.size + 1) (by simp) (by rfl) (HM.out.kept ((Kept.refl wr).alloc _)) hln hlb ?_; intro g5 c5 w5 R5 gr5 at5; have K5 := irow_app HM.out K gr5 R5; rw [← HN2.out] at R5)
        go_roundg g3'
        case rel => exact ⟨j + 1, _, rfl, by go_num, by omega, R5, K5⟩
        case measure => omega
      · rw [if_neg h2, List.append_nil] at HN
        have HM2 : Hid (IRow 3 w.heap.size (wr.alloc (.cells #[.int .i64 k, .int .i64 n, .int .i64 v, .int .i64 wt, .slice ca l.length cc] 31)) v3 (lockNs (p.take (j + 1)))) := by show IRow _ _ _ _ _; rw [HN]; exact HM.out.kept ((Kept.refl wr).alloc _)
        have k2 : (k == 2) = false := beq_eq_false_iff_ne.2 h2
        clear HN
        go_wp2_with fail
        go_roundg g3'
        case rel => exact ⟨j + 1, v3, rfl, by go_num, by omega, HM2, KA⟩
        case measure => omega
    · have b1 : ¬ (j : Int) < (p.length : Int) := by omega
      have HM2 : Hid (IRow 3 w.heap.size wr v3 (lockNs p)) := by
        have h := HM.out
        rw [List.take_of_length_le (by omega)] at h
        exact h
      have hlp := lockNs_len p
      clear HM
      by_cases hz : (lockNs p).length = 0
      · have HD : Hid (locksD p = []) := by show _ = _; unfold locksD; rw [List.eq_nil_of_length_eq_zero hz]; simp [Lib.compact, Lib.compactUpTo]
        obtain ⟨va, vc, hv, _⟩ := HM2.out.form
        rw [hz] at hv
        subst hv
        go_wp2_with fail
        refine (Tryd.slices_Sort_int_none va vc wr).mono ?_
        rintro e w4 ⟨rfl, hw4⟩
        subst w4
        go_wp2_with fail
        refine (Tryd.slices_Compact_int_empty va vc wr).mono ?_
        rintro e w4 ⟨rfl, hw4⟩
        subst w4
        go_wp2_with fail
        go_ret
        rw [HD.out]
        exact ⟨va, vc, rfl, fun j x hx => by simp at hx, K⟩
      · obtain ⟨g, vc, hv, hvc, hg1, hg2⟩ := HM2.out.some (by omega)
        subst hv
        obtain ⟨zs, hzs⟩ : ∃ z, lockNs p = z := ⟨_, rfl⟩
        obtain ⟨ms, hms⟩ : ∃ z, zs.mergeSort (fun x y => decide (x ≤ y)) = z := ⟨_, rfl⟩
        rw [hzs] at HM2 hlp hz hvc ⊢
        have hml : ms.length = zs.length := by rw [← hms, List.length_mergeSort]
        have HD : Hid (locksD p = Lib.compact ms) := by show _ = _; unfold locksD; rw [hzs, hms]
        have hH := holds_row HM2.out
        have hso := Tryd.slices_Sort_int g 0 vc zs wr hH hg2 (by omega)
        rw [hms] at hso
        have hcl := compact_len ms
        have HL := fun n os q => locks_left (w := w) (n := n) (os := os) (q := q) hH hg1 hg2 K ms hml (Lib.compact ms ++ List.replicate (ms.length - (Lib.compact ms).length) 0) (by simp; omega) (Lib.compact ms) (fun j x hj => by rw [List.getElem?_append_left (List.getElem?_eq_some_iff.1 hj).1]; exact hj)
        have HHL : Hid (∀ n os q, _) := HL
        clear hms hzs HM2 HL hH
        go_wp2_with fail
        refine hso.mono ?_
        rintro e w4 ⟨rfl, n4, os4, hw4⟩
        have HW4 : Hid (w4 = Sort.grow (Sort.putRow (Value.int .i64) (Sort.ahead wr n4) g 0 ms.toArray) os4) := hw4
        clear hw4
        have hco := Tryd.slices_Compact_int g 0 vc ms w4 (by rw [HW4.out]; exact (HHL.out n4 os4 0).1) (by omega) (by omega)
        rw [hml] at hco
        go_wp2_with fail
        refine hco.mono ?_
        rintro e w5 ⟨rfl, q5, hw5⟩
        rw [HW4.out] at hw5
        have HW5 := (HHL.out n4 os4 q5).2
        rw [hml] at HW5
        rw [← hw5] at HW5
        clear hw5
        go_wp2_with fail
        go_ret
        rw [HD.out]
        exact ⟨_, _, rfl, HW5.1, HW5.2⟩
end Go.Proofs.YtembbhbbmkijcaaDoor
