/- WordNames, walked. -/
import Derived.Test.YtfmoijmfndmgaaaDoorKnown
import Derived.Laws.IdiomStrings
import Derived.OwnWalk
namespace Go.Proofs.YtfmoijmfndmgaaaDoor
open Go.RowKit

def byteV (c : UInt8) : Value := .int .u8 (c.toNat : Int)
/-- A row of bytes that the call owns. -/
def ByteRow (base : Nat) (w : World) (g : Nat) (l : List UInt8) : Prop := w.ownsRow base 5 1 (.slice (some ⟨g, 0, none⟩) l.length l.length) l.length (l.map byteV)
theorem ByteRow.cell {base : Nat} {w : World} {g : Nat} {l : List UInt8} (h : ByteRow base w g l) (j : Nat) (hj : j < l.length) : w.cell? ⟨g, j, none⟩ = some (byteV l[j]) := by
  have h' := h
  unfold ByteRow at h'
  rw [h'.cellAt j (by omega), List.getElem?_map]
  simp [hj]
theorem ByteRow.free {base : Nat} {w : World} {g : Nat} {l : List UInt8} (h : ByteRow base w g l) (j : Nat) : w.frozen? ⟨g, j, none⟩ = false := World.ownsRow.frozenAt h j
theorem ByteRow.lo {base : Nat} {w : World} {g : Nat} {l : List UInt8} (h : ByteRow base w g l) : base ≤ g := (World.ownsRow.lt h g rfl).1
theorem ByteRow.set {base : Nat} {w : World} {g : Nat} {l : List UInt8} (h : ByteRow base w g l) (j : Nat) (c : UInt8) : ByteRow base (w.setCell ⟨g, j, none⟩ (byteV c)) g (l.set j c) := by
  unfold ByteRow at *
  rw [List.length_set, List.map_set]
  exact (h.stored j _).1
theorem ByteRow.text {base : Nat} {w : World} {g : Nat} {l : List UInt8} (h : ByteRow base w g l) : (convert 39 9 (.slice (some ⟨g, 0, none⟩) l.length l.length)).run Tryd.prog w = .ok (.string (B l)) w := by
  refine run_convert_bytes_back (P := Tryd.prog) w 39 9 5 ⟨g, 0, none⟩ l.length l Tryd.underlying39 Tryd.underlying5 Tryd.underlying9 ?_
  intro j hj
  rw [Addr.add_lit, Nat.zero_add, h.cell j hj]
  rfl
theorem kept_set {w0 w : World} {g : Nat} (T : Kept w0 w) (hg : w0.heap.size ≤ g) (j : Nat) (u : Value) : Kept w0 (w.setCell ⟨g, j, none⟩ u) :=
  Below.setCell T (p := ⟨g, j, none⟩) hg u

/-- The first k small letters. -/
def lets (k : Nat) : List UInt8 := (List.range k).map (fun j => UInt8.ofNat (97 + j))
theorem lets_len (k : Nat) : (lets k).length = k := by simp [lets]
theorem lets_set (k i : Nat) (h : i < k) : (lets i ++ List.replicate (k - i) 0).set i (UInt8.ofNat (97 + i)) = lets (i + 1) ++ List.replicate (k - (i + 1)) 0 := by
  have e : k - i = (k - (i + 1)) + 1 := by omega
  rw [e, List.replicate_succ, List.set_append_right _ _ (by rw [lets_len]; omega), lets_len, Nat.sub_self, List.set_cons_zero]
  have : lets (i + 1) = lets i ++ [UInt8.ofNat (97 + i)] := by simp [lets, List.range_succ]
  rw [this]; simp
theorem lets_name (k : Nat) (h : k ≤ 10) : nameB (lets k) = (decide (1 ≤ k) && decide (k ≤ 8)) := by
  have : ∀ j : Fin 11, nameB (lets j.val) = (decide (1 ≤ j.val) && decide (j.val ≤ 8)) := by decide +kernel
  exact this ⟨k, by omega⟩
theorem lets_in (k : Nat) (h : k ≤ 10) : ∀ c ∈ lets k, 97 ≤ c.toNat ∧ c.toNat ≤ 122 := by
  intro c hc
  simp only [lets, List.mem_map, List.mem_range] at hc
  obtain ⟨j, hj, rfl⟩ := hc
  rw [UInt8.toNat_ofNat']
  omega
theorem set_name (k m : Nat) (c : UInt8) (h1 : k ≤ 8) (hm : m < k) : nameB ((lets k).set m c) = (decide (97 ≤ c.toNat) && decide (c.toNat ≤ 122)) := by
  have hl : ((lets k).set m c).length = k := by rw [List.length_set, lets_len]
  unfold nameB
  rw [hl, decide_eq_true h1, Bool.true_and]
  have hmem : c ∈ (lets k).set m c := List.mem_set (by rw [lets_len]; exact hm) c
  by_cases hc : 97 ≤ c.toNat ∧ c.toNat ≤ 122
  · rw [decide_eq_true hc.1, decide_eq_true hc.2]
    apply (within_iff _ _ _).2
    refine ⟨List.ne_nil_of_mem hmem, fun x hx => ?_⟩
    rcases List.mem_or_eq_of_mem_set hx with hx | hx
    · exact lets_in k (by omega) x hx
    · rw [hx]; exact hc
  · have : within 97 122 ((lets k).set m c) = false := by
      rw [Bool.eq_false_iff]
      intro e
      exact hc (((within_iff _ _ _).1 e).2 c hmem)
    rw [this]
    by_cases h97 : 97 ≤ c.toNat
    · rw [decide_eq_true h97, decide_eq_false (by omega)]; rfl
    · rw [decide_eq_false h97]; rfl

theorem info5 : (Tryd.prog.info? 5).map (fun i => (i.zero, i.size, i.bytes)) = some (some (.int .u8 0), 1, 1) := by kernel_rfl

set_option maxHeartbeats 1000000 in
theorem names_any (n c at' : Int) (hn0 : 0 ≤ n) (hn1 : n ≤ 255) (hc0 : 0 ≤ c) (hc1 : c ≤ 255) (ha0 : 0 ≤ at') (ha1 : at' ≤ 255) (w : World) (hr : Rdy w) :
    Calls Tryd.prog 8 #[.int .u8 n, .int .u8 c, .int .u8 at'] w fun e w' => e = .returned (.bool true) ∧ Kept w w' := by
  obtain ⟨k, hk⟩ : ∃ k : Nat, n % 11 = (k : Int) := ⟨(n % 11).toNat, by omega⟩
  have hk1 : k ≤ 10 := by omega
  obtain ⟨cb, hcb⟩ : ∃ cb : UInt8, c = (cb.toNat : Int) := ⟨UInt8.ofNat c.toNat, by rw [UInt8.toNat_ofNat']; omega⟩
  subst hcb
  obtain ⟨i, hi, hz0, hz1, hz2⟩ := info_parts info5
  have hib : i.bytes * k ≤ 281474976710656 := by rw [hz2]; omega
  go_enter Tryd.func8, Tryd.ntmps8
  go_wp2_with fail
  refine (known_true w hr).mono ?_
  rintro e w1 ⟨rfl, T1⟩
  have hB := T1.size
  go_wp2_with (refine wpList_make_full _ (by rfl) _ _ 39 rfl w.heap.size 5 i _ 1 Tryd.underlying39 hi hz0 hz1 .i64 .i64 _ _ k (by rfl) (by rfl) rfl rfl hib (by unfold maxLen; omega) hB ?_; intro w2 o2 g2)
  have hx2 : ByteRow w.heap.size w2 w1.heap.size (lets 0 ++ List.replicate (k - 0) 0) := by
    unfold ByteRow
    rw [show (lets 0 ++ List.replicate (k - 0) 0 : List UInt8) = List.replicate k 0 from by simp [lets]]
    rw [List.length_replicate, List.map_replicate]
    have := o2
    rw [Nat.mul_one, show (Value.int IntKind.u8 0).cells = #[.int .u8 0] from rfl, toList_madeCells_one] at this
    exact this
  have T2 : Kept w w2 := Kept.trans T1 ⟨g2.os, g2.tape, g2.output, g2.size, fun q hq => g2.block q hq (by simp)⟩
  obtain ⟨g, hg⟩ : ∃ g, w1.heap.size = g := ⟨_, rfl⟩
  rw [hg] at hx2
  rw [hg]
  clear o2 g2 T1 hi hz0 hz1 hz2 hib hg
  go_loopw [9] (fun i wr => ∃ j : Nat, i = .int .i64 j ∧ j ≤ k ∧ ByteRow w.heap.size wr g (lets j ++ List.replicate (k - j) 0) ∧ Kept w wr) (fun i _ => k - (intOf i).toNat)
  case atStart => exact ⟨0, rfl, by omega, hx2, T2⟩
  case round =>
    clear hx2 T2
    obtain ⟨j, rfl, hj, hx, T⟩ := hrel
    have hgl := hx.lo
    by_cases hjk : j < k
    · have hcell := hx.cell j (by simp [lets_len]; omega)
      generalize (lets j ++ List.replicate (k - j) 0)[j]'(by simp [lets_len]; omega) = old at hcell
      unfold byteV at hcell
      have hfr := hx.free j
      have b1 : (j : Int) < (k : Int) := by omega
      have b2 : (0 : Int) ≤ (j : Int) := by omega
      have HS : Hid (ByteRow w.heap.size (wr.setCell ⟨g, j, none⟩ (.int .u8 (97 + (j : Int)))) g (lets (j + 1) ++ List.replicate (k - (j + 1)) 0)) := by
        have h5 := hx.set j (UInt8.ofNat (97 + j))
        rw [lets_set k j hjk] at h5
        unfold byteV at h5
        rw [UInt8.toNat_ofNat', Nat.mod_eq_of_lt (by omega)] at h5
        exact h5
      go_wp2_with fail
      go_roundw
      case rel => exact ⟨j + 1, by go_num, by omega, HS.out, kept_set T hgl _ _⟩
      case measure => simp [intOf]; omega
    · have hjj : j = k := by omega
      subst hjj
      have b1 : ¬ (j : Int) < (j : Int) := by omega
      rw [Nat.sub_self, List.replicate_zero, List.append_nil] at hx
      have hcv := hx.text
      rw [lets_len] at hcv
      have HN : Hid (nameB (lets j) = (decide (1 ≤ j) && decide (j ≤ 8))) := lets_name j hk1
      have hnm := name_any (B (lets j)) wr
      rw [B_list, HN.out] at hnm
      clear HN
      by_cases hj1 : 1 ≤ j ∧ j ≤ 8
      · have c1 : decide (1 ≤ j) = true := decide_eq_true hj1.1
        have c2 : decide (j ≤ 8) = true := decide_eq_true hj1.2
        have c3 : decide ((1 : Int) ≤ (j : Int)) = true := decide_eq_true (by omega)
        have c4 : decide ((j : Int) ≤ 8) = true := decide_eq_true (by omega)
        have c5 : decide ((j : Int) < 1) = false := decide_eq_false (by omega)
        have c6 : decide (8 < (j : Int)) = false := decide_eq_false (by omega)
        obtain ⟨m, hm⟩ : ∃ m : Nat, at' % (j : Int) = (m : Int) := ⟨(at' % (j : Int)).toNat, by have := Int.emod_nonneg at' (show (j : Int) ≠ 0 by omega); omega⟩
        have hm1 : m < j := by have := Int.emod_lt_of_pos at' (show (0 : Int) < (j : Int) by omega); omega
        have hmt : at'.tmod (j : Int) = (m : Int) := by rw [Int.tmod_eq_emod_of_nonneg ha0]; exact hm
        have hcell := hx.cell m (by rw [lets_len]; exact hm1)
        generalize (lets j)[m]'(by rw [lets_len]; exact hm1) = old at hcell
        unfold byteV at hcell
        have hfr := hx.free m
        have d1 : (m : Int) < (j : Int) := by omega
        have d2 : (0 : Int) ≤ (m : Int) := by omega
        have d3 : ¬ (j : Int) = 0 := by omega
        have hx3 : ByteRow w.heap.size (wr.setCell ⟨g, m, none⟩ (.int .u8 (cb.toNat : Int))) g ((lets j).set m cb) := hx.set m cb
        have hcv3 := hx3.text
        rw [List.length_set, lets_len] at hcv3
        have hnm3 := name_any (B ((lets j).set m cb)) (wr.setCell ⟨g, m, none⟩ (.int .u8 (cb.toNat : Int)))
        rw [B_list, set_name j m cb hj1.2 hm1] at hnm3
        obtain ⟨x, hx5⟩ : ∃ x, decide ((97 : Int) ≤ (cb.toNat : Int)) = x := ⟨_, rfl⟩
        obtain ⟨y, hy5⟩ : ∃ y, decide ((cb.toNat : Int) ≤ 122) = y := ⟨_, rfl⟩
        have hx6 : decide (97 ≤ cb.toNat) = x := by rw [← hx5]; congr 1; apply propext; omega
        have hy6 : decide (cb.toNat ≤ 122) = y := by rw [← hy5]; congr 1; apply propext; omega
        rw [hx6, hy6] at hnm3
        rw [c1, c2] at hnm
        have hT3 := kept_set T hgl m (.int .u8 (cb.toNat : Int))
        clear hx3 hx hj1
        go_wp2_with fail
        refine hnm.mono ?_
        rintro e w5 ⟨rfl, hw⟩
        subst w5
        go_wp2_with fail
        refine hnm3.mono ?_
        rintro e w5 ⟨rfl, hw⟩
        subst w5
        cases x with
        | false =>
          go_wp2_with fail
          go_ret
          exact ⟨rfl, hT3⟩
        | true =>
          have e1 : (y == y) = true := by simp
          go_wp2_with fail
          go_ret
          exact ⟨rfl, hT3⟩
      · by_cases h1 : 1 ≤ j
        · have h8 : ¬ j ≤ 8 := fun h => hj1 ⟨h1, h⟩
          have c1 : decide (1 ≤ j) = true := decide_eq_true h1
          have c2 : decide (j ≤ 8) = false := decide_eq_false h8
          have c3 : decide ((1 : Int) ≤ (j : Int)) = true := decide_eq_true (by omega)
          have c4 : decide ((j : Int) ≤ 8) = false := decide_eq_false (by omega)
          have c5 : decide ((j : Int) < 1) = false := decide_eq_false (by omega)
          have c6 : decide (8 < (j : Int)) = true := decide_eq_true (by omega)
          rw [c1, c2] at hnm
          clear hj1
          go_wp2_with fail
          refine hnm.mono ?_
          rintro e w5 ⟨rfl, hw⟩
          subst w5
          go_wp2_with fail
          go_ret
          exact ⟨rfl, T⟩
        · have c1 : decide (1 ≤ j) = false := decide_eq_false h1
          have c3 : decide ((1 : Int) ≤ (j : Int)) = false := decide_eq_false (by omega)
          have c5 : decide ((j : Int) < 1) = true := decide_eq_true (by omega)
          rw [c1] at hnm
          clear hj1
          go_wp2_with fail
          refine hnm.mono ?_
          rintro e w5 ⟨rfl, hw⟩
          subst w5
          go_wp2_with fail
          go_ret
          exact ⟨rfl, T⟩
end Go.Proofs.YtfmoijmfndmgaaaDoor
