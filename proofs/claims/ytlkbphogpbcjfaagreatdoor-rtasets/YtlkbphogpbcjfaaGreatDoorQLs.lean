/- Locks, walked; Ints. Sorted, each once: what the locks of a program are. -/
import Derived.Test.YtlkbphogpbcjfaaGreatDoorQTm
import Derived.Test.YtlkbphogpbcjfaaGreatDoorQbase
namespace Go.Proofs.YtlkbphogpbcjfaaGreatDoor
open Go.RowKit

set_option maxHeartbeats 4000000 in
set_option maxRecDepth 10000 in
theorem locks_any (a : Option Addr) (c : Nat) (p : List OpD) (w : World) (hA : AtP w a p) (hp : p.length ≤ 100000) :
    Calls Tryz.prog 64 #[.slice a p.length c] w fun e w' => ∃ va vc, e = .returned (.slice va (locksD p).length vc) ∧ AtI w' va (locksD p) ∧ Kept w w' := by
  have HA : Hid (AtP w a p) := hA
  clear hA
  go_enter Tryz.func64, Tryz.ntmps64
  go_wp2_with fail
  go_loopg [3, 8] p.length (fun gk x3 i wr => ∃ (j : Nat) (v : Value), v = x3 ∧ i = .int .i64 j ∧ j + gk = p.length ∧ Hid (IRow 3 w.heap.size wr v (lockNs (p.take j))) ∧ Kept w wr)
  case atStart => exact ⟨0, _, rfl, rfl, by omega, IRow.nil _ _ _, Kept.refl w⟩
  case round =>
    obtain ⟨j, v3, hx3, rfl, hj, HM, K⟩ := hrel
    subst hx3
    by_cases hjp : j < p.length
    · obtain ⟨b, f, k, n, v, wt, l, ca, cc, rfl, hpj, g0, g1, g2, g3, g4, hcc, hat, hbl, hdr⟩ := (HA.out.kept K).get j hjp
      have b1 : (j : Int) < (p.length : Int) := by omega
      have b2 : (0 : Int) ≤ (j : Int) := by omega
      have HN := lockNs_next p j _ hpj
      simp only at HN
      have KA := K.alloc (.cells #[.int .i64 k, .int .i64 n, .int .i64 v, .int .i64 wt, .slice ca l.length cc] 77)
      obtain ⟨g3', rfl⟩ : ∃ g, gk = g + 1 := ⟨gk - 1, by omega⟩
      have hln : (lockNs (p.take j)).length ≤ 1000000 := by have := lockNs_len (p.take j); rw [List.length_take] at this; omega
      have hlb : w.heap.size ≤ (wr.alloc (.cells #[.int .i64 k, .int .i64 n, .int .i64 v, .int .i64 wt, .slice ca l.length cc] 77)).heap.size := KA.size
      clear hpj hat hdr
      by_cases h2 : k = 2
      · subst h2
        rw [if_pos rfl] at HN
        have HN2 : Hid (lockNs (p.take (j + 1)) = lockNs (p.take j) ++ [n]) := HN
        clear HN
        go_wp2_with (at_builtin; refine wpList_append_int nInt _ (by rfl) _ _ rfl w.heap.size v3 (lockNs (p.take j)) n (wr.alloc (.cells #[.int .i64 2, .int .i64 n, .int .i64 v, .int .i64 wt, .slice ca l.length cc] 77)) (by rfl) (by rfl) (wr.heap.size + 1) (by simp) (by rfl) (HM.out.kept ((Kept.refl wr).alloc _)) hln hlb ?_; intro g5 c5 w5 R5 gr5 at5; have K5 := irow_app HM.out K gr5 R5; rw [← HN2.out] at R5)
        go_roundg g3'
        case rel => exact ⟨j + 1, _, rfl, by go_num, by omega, R5, K5⟩
        case measure => omega
      · rw [if_neg h2, List.append_nil] at HN
        have HM2 : Hid (IRow 3 w.heap.size (wr.alloc (.cells #[.int .i64 k, .int .i64 n, .int .i64 v, .int .i64 wt, .slice ca l.length cc] 77)) v3 (lockNs (p.take (j + 1)))) := by show IRow _ _ _ _ _; rw [HN]; exact HM.out.kept ((Kept.refl wr).alloc _)
        have k2 : (k == 2) = false := beq_eq_false_iff_ne.2 h2
        clear HN
        go_wp2_with fail
        go_roundg g3'
        case rel => exact ⟨j + 1, v3, rfl, by go_num, by omega, HM2, KA⟩
        case measure => omega
    · have b1 : ¬ (j : Int) < (p.length : Int) := by omega
      have HM2 : Hid (IRow 3 w.heap.size wr v3 (lockNs p)) := by
        have h := HM.out
        rw [List.take_of_length_le (by omega)] at h
        exact h
      have hlp := lockNs_len p
      clear HM
      by_cases hz : (lockNs p).length = 0
      · have HD : Hid (locksD p = []) := by show _ = _; unfold locksD; rw [List.eq_nil_of_length_eq_zero hz]; simp [Lib.compact, Lib.compactUpTo]
        obtain ⟨va, vc, hv, _⟩ := HM2.out.form
        rw [hz] at hv
        subst hv
        go_wp2_with fail
        refine (Tryz.slices_Sort_int_none va vc wr).mono ?_
        rintro e w4 ⟨rfl, hw4⟩
        subst w4
        go_wp2_with fail
        refine (Tryz.slices_Compact_int_empty va vc wr).mono ?_
        rintro e w4 ⟨rfl, hw4⟩
        subst w4
        go_wp2_with fail
        go_ret
        rw [HD.out]
        exact ⟨va, vc, rfl, fun j x hx => by simp at hx, K⟩
      · obtain ⟨g, vc, hv, hvc, hg1, hg2⟩ := HM2.out.some (by omega)
        subst hv
        obtain ⟨zs, hzs⟩ : ∃ z, lockNs p = z := ⟨_, rfl⟩
        obtain ⟨ms, hms⟩ : ∃ z, zs.mergeSort (fun x y => decide (x ≤ y)) = z := ⟨_, rfl⟩
        rw [hzs] at HM2 hlp hz hvc ⊢
        have hml : ms.length = zs.length := by rw [← hms, List.length_mergeSort]
        have HD : Hid (locksD p = Lib.compact ms) := by show _ = _; unfold locksD; rw [hzs, hms]
        have hH := holds_row HM2.out
        have hso := Tryz.slices_Sort_int g 0 vc zs wr hH hg2 (by omega)
        rw [hms] at hso
        have hcl := compact_len ms
        have HL := fun n os q => locks_left (w := w) (n := n) (os := os) (q := q) hH hg1 hg2 K ms hml (Lib.compact ms ++ List.replicate (ms.length - (Lib.compact ms).length) 0) (by simp; omega) (Lib.compact ms) (fun j x hj => by rw [List.getElem?_append_left (List.getElem?_eq_some_iff.1 hj).1]; exact hj)
        have HHL : Hid (∀ n os q, _) := HL
        clear hms hzs HM2 HL hH
        go_wp2_with fail
        refine hso.mono ?_
        rintro e w4 ⟨rfl, n4, os4, hw4⟩
        have HW4 : Hid (w4 = Sort.grow (Sort.putRow (Value.int .i64) (Sort.ahead wr n4) g 0 ms.toArray) os4) := hw4
        clear hw4
        have hco := Tryz.slices_Compact_int g 0 vc ms w4 (by rw [HW4.out]; exact (HHL.out n4 os4 0).1) (by omega) (by omega)
        rw [hml] at hco
        go_wp2_with fail
        refine hco.mono ?_
        rintro e w5 ⟨rfl, q5, hw5⟩
        rw [HW4.out] at hw5
        have HW5 := (HHL.out n4 os4 q5).2
        rw [hml] at HW5
        rw [← hw5] at HW5
        clear hw5
        go_wp2_with fail
        go_ret
        rw [HD.out]
        exact ⟨_, _, rfl, HW5.1, HW5.2⟩
end Go.Proofs.YtlkbphogpbcjfaaGreatDoor
namespace Go.Proofs.YtlkbphogpbcjfaaGreatDoor

theorem at_get (zs : List Int) (j : Nat) (h : j < zs.length) : zs.toArray[j]! = zs[j] := by
  simp [h]
theorem compact_mem (zs : List Int) (x : Int) : x ∈ Lib.compact zs ↔ x ∈ zs := by
  unfold Lib.compact Lib.compactUpTo
  constructor
  · intro h
    obtain ⟨j, hj, rfl⟩ := List.mem_map.1 h
    have hj2 := List.mem_range.1 (List.mem_filter.1 hj).1
    rw [at_get zs j hj2]
    exact List.getElem_mem hj2
  · intro h
    obtain ⟨j, hj, rfl⟩ := List.getElem_of_mem h
    have key : ∀ (i : Nat) (hi : i < zs.length), ∃ k, k < zs.length ∧ Lib.keeps zs.toArray k = true ∧ zs.toArray[k]! = zs[i] := by
      intro i
      induction i with
      | zero => intro hi; exact ⟨0, hi, by simp [Lib.keeps], at_get zs 0 hi⟩
      | succ i ih =>
        intro hi
        by_cases hk : Lib.keeps zs.toArray (i + 1) = true
        · exact ⟨i + 1, hi, hk, at_get zs _ hi⟩
        · obtain ⟨k, h1, h2, h3⟩ := ih (by omega)
          refine ⟨k, h1, h2, ?_⟩
          simp only [Lib.keeps, decide_eq_true_eq, not_or, Decidable.not_not] at hk
          have := hk.2
          rw [Nat.add_sub_cancel, at_get zs _ hi, at_get zs i (by omega)] at this
          rw [h3, this]
    obtain ⟨k, h1, h2, h3⟩ := key j hj
    exact List.mem_map.2 ⟨k, List.mem_filter.2 ⟨List.mem_range.2 h1, h2⟩, h3⟩
theorem compact_strict (zs : List Int) (hs : zs.Pairwise (· ≤ ·)) : (Lib.compact zs).Pairwise (· < ·) := by
  unfold Lib.compact Lib.compactUpTo
  rw [List.pairwise_map]
  have h1 : ((List.range zs.length).filter (Lib.keeps zs.toArray)).Pairwise (· < ·) := List.Pairwise.filter _ List.pairwise_lt_range
  refine List.Pairwise.imp_of_mem (fun {i j} hi hj hij => ?_) h1
  have hj1 := List.mem_range.1 (List.mem_filter.1 hj).1
  have hk := (List.mem_filter.1 hj).2
  simp only [Lib.keeps, decide_eq_true_eq] at hk
  have hle := List.pairwise_iff_getElem.1 hs
  rcases hk with hk | hk
  · omega
  · rw [at_get zs j hj1, at_get zs (j - 1) (by omega)] at hk
    rw [at_get zs j hj1, at_get zs i (by omega)]
    have h2 := hle (j - 1) j (by omega) hj1 (by omega)
    by_cases hij2 : i = j - 1
    · subst hij2
      omega
    · have h3 := hle i (j - 1) (by omega) (by omega) (by omega)
      omega
theorem locksD_strict (p : List OpD) : (locksD p).Pairwise (· < ·) := compact_strict _ (sorted_le _)
theorem locksD_mem (p : List OpD) (x : Int) : x ∈ locksD p ↔ x ∈ lockNs p := by
  unfold locksD
  rw [compact_mem]
  exact List.mem_mergeSort
end Go.Proofs.YtlkbphogpbcjfaaGreatDoor
