/- The reference's ParseOp. -/
import Derived.Test.YtiiddfahpddffaaDoorRLai
import Derived.Test.YtiiddfahpddffaaDoorPar
import Derived.Test.YtiiddfahpddffaaDoorRChk7
import Derived.Test.YtiiddfahpddffaaDoorRNum
namespace Go.Proofs.YtiiddfahpddffaaDoor
open Go.RowKit

/-- What ParseOp answers. -/
def RPar (s : List UInt8) (w : World) : Prop := Calls Tryd.prog 21 #[.string (B s)] w fun en w' => ∃ sv, en = .returned (.tuple #[.agg #[.int .i64 (parseD s).1.kind, .int .i64 (parseD s).1.n, .int .i64 (parseD s).1.v, .int .i64 (parseD s).1.wait, sv], .int .i64 (parseD s).2]) ∧ CRow 50 w.heap.size w' sv (parseD s).1.cases ∧ Kept w w'
theorem checked_ok {o : OpD} (h : checkD o = 0) : checked (o, 0) = (o, 0) := by simp [checked, h]
theorem checked_no {o : OpD} (h : ¬ checkD o = 0) : checked (o, 0) = (zeroD, checkD o) := by simp [checked, h]
theorem checked_err {x : OpD × Int} {e : Int} (h : x = (zeroD, e)) (he : ¬ e = 0) : checked x = (zeroD, e) := by subst h; simp [checked, he]
theorem atCell {w : World} {b f m : Nat} {l : List (List UInt8)} (h : At w (some ⟨b, f, none⟩) m l) (j : Nat) (x : List UInt8) (hx : l[j]? = some x) : w.cell? ⟨b, f + j, none⟩ = some (.string (B x)) := by
  have hj : j < m := by rw [← h.1]; exact (List.getElem?_eq_some_iff.1 hx).1
  obtain ⟨b', f', e, hc⟩ := h.2 j hj
  cases e
  rw [List.getD_eq_getElem?_getD, hx] at hc
  exact hc

set_option maxHeartbeats 4000000 in
set_option maxRecDepth 10000 in
theorem rparse_k1 (s x y : List UInt8) (hl : s.length ≤ 1000) (w : World) (hso : splitOf s = some [x, y]) (hk : kindOf x = 1) : RPar s w := by
  have HR : Hid (parseD s = checked (readD 1 [y])) := by
    show _ = _
    have := parse_read hso (by rw [hk]; decide) (by rw [hk]; rfl)
    rw [hk] at this
    exact this
  have HWX : Hid (∀ t0 ∈ [x, y], t0.length ≤ s.length) := splitOf_mem hso
  have ly : y.length ≤ 100000 := by have := HWX.out y (by simp); omega
  have A0 := box_new w.heap.size w 24 [.int .i64 0, .int .i64 0, .int .i64 0, .int .i64 0, .slice none 0 0] (Nat.le_refl _) (by simp)
  have K0 := (Kept.refl w).alloc (.cells #[.int .i64 0, .int .i64 0, .int .i64 0, .int .i64 0, .slice none 0 0] 24)
  have hsp := rsplit_any s (by omega) (w.alloc (.cells #[.int .i64 0, .int .i64 0, .int .i64 0, .int .i64 0, .slice none 0 0] 24))
  rw [hso, show splitE (some [x, y]) = 0 from rfl, show splitR (some [x, y]) = [x, y] from rfl] at hsp
  clear hso HWX
  unfold RPar
  go_enter Tryd.func21, Tryd.ntmps21
  go_wp2_with fail
  refine hsp.mono ?_
  rintro e w1 ⟨v1, rfl, r1, t1⟩
  have A1 := A0.kept t1
  have K1 := K0.trans t1
  obtain ⟨a1, c1, hv1, _, hat1⟩ := StrRow.view r1
  subst hv1
  obtain ⟨b, f, rfl, hx0, _⟩ := hat1.head
  have HA1 : Hid (At w1 (some ⟨b, f, none⟩) 2 [x, y]) := hat1
  clear hat1 r1 hsp
  go_wp2_with fail
  refine (rkind_any x w1).mono ?_
  rintro e w2 ⟨rfl, t2⟩
  have A2 := A1.kept t2
  have K2 := K1.trans t2
  have hbl : b < w2.heap.size := by have := cell_lt hx0; have := t2.size; simp only at *; omega
  have hlt : w.heap.size < w2.heap.size := A2.lt.2
  rw [hk]
  clear hk hx0
  have HA2 : Hid (At w2 (some ⟨b, f, none⟩) 2 [x, y]) := HA1.out.kept t2
  have hx1 : w2.cell? ⟨b, f + 1, none⟩ = some (.string (B y)) := atCell HA2.out 1 y rfl
  have A3 := A2.kept ((Kept.refl w2).alloc (.cells #[.int .i64 1, .int .i64 0, .int .i64 0, .int .i64 0, .slice none 0 0] 24))
  have K3 := K2.alloc (.cells #[.int .i64 1, .int .i64 0, .int .i64 0, .int .i64 0, .slice none 0 0] 24)
  have hla := rlaid_any 1 (by omega) (by omega) (some ⟨b, f, none⟩) c1 [x, y] (w2.alloc (.cells #[.int .i64 1, .int .i64 0, .int .i64 0, .int .i64 0, .slice none 0 0] 24)) (HA2.out.kept ((Kept.refl w2).alloc _)) (by simp)
  rw [show fitsB (shapeOf 1) [x, y] = true from rfl] at hla
  go_wp2_with fail
  refine hla.mono ?_
  rintro e w3 ⟨rfl, hw3⟩
  subst w3
  obtain ⟨n1, e1, hn1⟩ : ∃ n e, numOf y = (n, e) := ⟨_, _, rfl⟩
  have HN1 : Hid (numOf y = (n1, e1)) := hn1
  have hnu1 := rnumber_any y ly (w2.alloc (.cells #[.int .i64 1, .int .i64 0, .int .i64 0, .int .i64 0, .slice none 0 0] 24))
  rw [hn1] at hnu1
  clear hn1
  go_wp2_with fail
  refine hnu1.mono ?_
  rintro e w4 ⟨rfl, hw4⟩
  subst w4
  by_cases he : e1 = 0
  · subst he
    have HC : Hid (parseD s = checked (⟨1, n1, 0, 0, []⟩, 0)) := by show _ = _; rw [HR.out]; simp only [readD, HN1.out]; simp
    have A4 := A2.kept ((Kept.refl w2).alloc (.cells #[.int .i64 1, .int .i64 n1, .int .i64 0, .int .i64 0, .slice none 0 0] 24))
    have K4 := K2.alloc (.cells #[.int .i64 1, .int .i64 n1, .int .i64 0, .int .i64 0, .slice none 0 0] 24)
    have O4 := box_new w2.heap.size w2 24 [.int .i64 1, .int .i64 n1, .int .i64 0, .int .i64 0, .slice none 0 0] (Nat.le_refl _) (by simp)
    have hck0 := rcheck_any 1 n1 0 0 none 0 0 [] (w2.alloc (.cells #[.int .i64 1, .int .i64 n1, .int .i64 0, .int .i64 0, .slice none 0 0] 24)) (AtC.none _) (by omega)
    by_cases hck : checkD ⟨1, n1, 0, 0, []⟩ = 0
    · rw [hck] at hck0
      have HP : Hid (parseD s = (⟨1, n1, 0, 0, []⟩, 0)) := by show _ = _; rw [HC.out]; exact checked_ok hck
      clear hck
      go_wp2_with fail
      refine hck0.mono ?_
      rintro e w5 ⟨rfl, t5⟩
      have A5 := A4.kept t5
      have K5 := K4.trans t5
      have O5 := O4.kept t5
      have o0 : (w5).cell? ⟨w2.heap.size, 0, none⟩ = some (.int .i64 1) := O5.cell 0 (by simp)
      have o1 : (w5).cell? ⟨w2.heap.size, 1, none⟩ = some (.int .i64 n1) := O5.cell 1 (by simp)
      have o2 : (w5).cell? ⟨w2.heap.size, 2, none⟩ = some (.int .i64 0) := O5.cell 2 (by simp)
      have o3 : (w5).cell? ⟨w2.heap.size, 3, none⟩ = some (.int .i64 0) := O5.cell 3 (by simp)
      have o4 : (w5).cell? ⟨w2.heap.size, 4, none⟩ = some (.slice none 0 0) := O5.cell 4 (by simp)
      have ol := O5.lt.2
      have p0 : (w5).cell? ⟨w.heap.size, 0, none⟩ = some (.int .i64 0) := A5.cell 0 (by simp)
      have p1 : (w5).cell? ⟨w.heap.size, 1, none⟩ = some (.int .i64 0) := A5.cell 1 (by simp)
      have p2 : (w5).cell? ⟨w.heap.size, 2, none⟩ = some (.int .i64 0) := A5.cell 2 (by simp)
      have p3 : (w5).cell? ⟨w.heap.size, 3, none⟩ = some (.int .i64 0) := A5.cell 3 (by simp)
      have p4 : (w5).cell? ⟨w.heap.size, 4, none⟩ = some (.slice none 0 0) := A5.cell 4 (by simp)
      have pf0 := A5.frozen 0
      have pf1 := A5.frozen 1
      have pf2 := A5.frozen 2
      have pf3 := A5.frozen 3
      have pf4 := A5.frozen 4
      have pl := A5.lt.2
      go_wp2_with fail
      (try simp only [Exit.inBlock, Exit.then])
      refine bodyPost_ret (v := .tuple #[.agg #[.int .i64 1, .int .i64 n1, .int .i64 0, .int .i64 0, .slice none 0 0], .int .i64 0]) ?_ rfl ⟨.slice none 0 0, by rw [HP.out] <;> rfl, by rw [HP.out]; exact CRow.nil _ _ _, (turn_set5 w5 w.heap.size (.int .i64 1) (.int .i64 n1) (.int .i64 0) (.int .i64 0) (.slice none 0 0)).kept K5 (fun i hi => by omega)⟩
      rw [results_cell_tmp rfl]
      go_simp
    · have hne2 : (checkD ⟨1, n1, 0, 0, []⟩ != 0) = true := by simp [hck]
      have HP : Hid (parseD s = (zeroD, checkD ⟨1, n1, 0, 0, []⟩)) := by show _ = _; rw [HC.out]; exact checked_no hck
      clear hck
      go_wp2_with fail
      refine hck0.mono ?_
      rintro e w5 ⟨rfl, t5⟩
      have A5 := A4.kept t5
      have K5 := K4.trans t5
      have p0 : (w5).cell? ⟨w.heap.size, 0, none⟩ = some (.int .i64 0) := A5.cell 0 (by simp)
      have p1 : (w5).cell? ⟨w.heap.size, 1, none⟩ = some (.int .i64 0) := A5.cell 1 (by simp)
      have p2 : (w5).cell? ⟨w.heap.size, 2, none⟩ = some (.int .i64 0) := A5.cell 2 (by simp)
      have p3 : (w5).cell? ⟨w.heap.size, 3, none⟩ = some (.int .i64 0) := A5.cell 3 (by simp)
      have p4 : (w5).cell? ⟨w.heap.size, 4, none⟩ = some (.slice none 0 0) := A5.cell 4 (by simp)
      have pf0 := A5.frozen 0
      have pf1 := A5.frozen 1
      have pf2 := A5.frozen 2
      have pf3 := A5.frozen 3
      have pf4 := A5.frozen 4
      have pl := A5.lt.2
      go_wp2_with fail
      (try simp only [Exit.inBlock, Exit.then])
      refine bodyPost_ret (v := .tuple #[.agg #[.int .i64 0, .int .i64 0, .int .i64 0, .int .i64 0, .slice none 0 0], .int .i64 (checkD ⟨1, n1, 0, 0, []⟩)]) ?_ rfl ⟨.slice none 0 0, by rw [HP.out] <;> rfl, by rw [HP.out]; exact CRow.nil _ _ _, ((turn_set5 (w5) w.heap.size (.int .i64 0) (.int .i64 0) (.int .i64 0) (.int .i64 0) (.slice none 0 0)).kept K5 (fun i hi => by omega))⟩
      rw [results_cell_tmp rfl]
      go_simp
  · have hne : (e1 != 0) = true := by simp [he]
    have HP : Hid (parseD s = (zeroD, e1)) := by show _ = _; rw [HR.out]; exact checked_err (by simp only [readD, HN1.out]; simp [he]) he
    clear he
    have p0 : (w2).cell? ⟨w.heap.size, 0, none⟩ = some (.int .i64 0) := A2.cell 0 (by simp)
    have p1 : (w2).cell? ⟨w.heap.size, 1, none⟩ = some (.int .i64 0) := A2.cell 1 (by simp)
    have p2 : (w2).cell? ⟨w.heap.size, 2, none⟩ = some (.int .i64 0) := A2.cell 2 (by simp)
    have p3 : (w2).cell? ⟨w.heap.size, 3, none⟩ = some (.int .i64 0) := A2.cell 3 (by simp)
    have p4 : (w2).cell? ⟨w.heap.size, 4, none⟩ = some (.slice none 0 0) := A2.cell 4 (by simp)
    have pf0 := A2.frozen 0
    have pf1 := A2.frozen 1
    have pf2 := A2.frozen 2
    have pf3 := A2.frozen 3
    have pf4 := A2.frozen 4
    have pl := A2.lt.2
    go_wp2_with fail
    (try simp only [Exit.inBlock, Exit.then])
    refine bodyPost_ret (v := .tuple #[.agg #[.int .i64 0, .int .i64 0, .int .i64 0, .int .i64 0, .slice none 0 0], .int .i64 e1]) ?_ rfl ⟨.slice none 0 0, by rw [HP.out] <;> rfl, by rw [HP.out]; exact CRow.nil _ _ _, ((turn_set5 (w2) w.heap.size (.int .i64 0) (.int .i64 0) (.int .i64 0) (.int .i64 0) (.slice none 0 0)).kept K2 (fun i hi => by omega)).alloc _⟩
    rw [results_cell_tmp rfl]
    go_simp

set_option maxHeartbeats 4000000 in
set_option maxRecDepth 10000 in
theorem rparse_k2 (s x y : List UInt8) (hl : s.length ≤ 1000) (w : World) (hso : splitOf s = some [x, y]) (hk : kindOf x = 2) : RPar s w := by
  have HR : Hid (parseD s = checked (readD 2 [y])) := by
    show _ = _
    have := parse_read hso (by rw [hk]; decide) (by rw [hk]; rfl)
    rw [hk] at this
    exact this
  have HWX : Hid (∀ t0 ∈ [x, y], t0.length ≤ s.length) := splitOf_mem hso
  have ly : y.length ≤ 100000 := by have := HWX.out y (by simp); omega
  have A0 := box_new w.heap.size w 24 [.int .i64 0, .int .i64 0, .int .i64 0, .int .i64 0, .slice none 0 0] (Nat.le_refl _) (by simp)
  have K0 := (Kept.refl w).alloc (.cells #[.int .i64 0, .int .i64 0, .int .i64 0, .int .i64 0, .slice none 0 0] 24)
  have hsp := rsplit_any s (by omega) (w.alloc (.cells #[.int .i64 0, .int .i64 0, .int .i64 0, .int .i64 0, .slice none 0 0] 24))
  rw [hso, show splitE (some [x, y]) = 0 from rfl, show splitR (some [x, y]) = [x, y] from rfl] at hsp
  clear hso HWX
  unfold RPar
  go_enter Tryd.func21, Tryd.ntmps21
  go_wp2_with fail
  refine hsp.mono ?_
  rintro e w1 ⟨v1, rfl, r1, t1⟩
  have A1 := A0.kept t1
  have K1 := K0.trans t1
  obtain ⟨a1, c1, hv1, _, hat1⟩ := StrRow.view r1
  subst hv1
  obtain ⟨b, f, rfl, hx0, _⟩ := hat1.head
  have HA1 : Hid (At w1 (some ⟨b, f, none⟩) 2 [x, y]) := hat1
  clear hat1 r1 hsp
  go_wp2_with fail
  refine (rkind_any x w1).mono ?_
  rintro e w2 ⟨rfl, t2⟩
  have A2 := A1.kept t2
  have K2 := K1.trans t2
  have hbl : b < w2.heap.size := by have := cell_lt hx0; have := t2.size; simp only at *; omega
  have hlt : w.heap.size < w2.heap.size := A2.lt.2
  rw [hk]
  clear hk hx0
  have HA2 : Hid (At w2 (some ⟨b, f, none⟩) 2 [x, y]) := HA1.out.kept t2
  have hx1 : w2.cell? ⟨b, f + 1, none⟩ = some (.string (B y)) := atCell HA2.out 1 y rfl
  have A3 := A2.kept ((Kept.refl w2).alloc (.cells #[.int .i64 2, .int .i64 0, .int .i64 0, .int .i64 0, .slice none 0 0] 24))
  have K3 := K2.alloc (.cells #[.int .i64 2, .int .i64 0, .int .i64 0, .int .i64 0, .slice none 0 0] 24)
  have hla := rlaid_any 2 (by omega) (by omega) (some ⟨b, f, none⟩) c1 [x, y] (w2.alloc (.cells #[.int .i64 2, .int .i64 0, .int .i64 0, .int .i64 0, .slice none 0 0] 24)) (HA2.out.kept ((Kept.refl w2).alloc _)) (by simp)
  rw [show fitsB (shapeOf 2) [x, y] = true from rfl] at hla
  go_wp2_with fail
  refine hla.mono ?_
  rintro e w3 ⟨rfl, hw3⟩
  subst w3
  obtain ⟨n1, e1, hn1⟩ : ∃ n e, numOf y = (n, e) := ⟨_, _, rfl⟩
  have HN1 : Hid (numOf y = (n1, e1)) := hn1
  have hnu1 := rnumber_any y ly (w2.alloc (.cells #[.int .i64 2, .int .i64 0, .int .i64 0, .int .i64 0, .slice none 0 0] 24))
  rw [hn1] at hnu1
  clear hn1
  go_wp2_with fail
  refine hnu1.mono ?_
  rintro e w4 ⟨rfl, hw4⟩
  subst w4
  by_cases he : e1 = 0
  · subst he
    have HC : Hid (parseD s = checked (⟨2, n1, 0, 0, []⟩, 0)) := by show _ = _; rw [HR.out]; simp only [readD, HN1.out]; simp
    have A4 := A2.kept ((Kept.refl w2).alloc (.cells #[.int .i64 2, .int .i64 n1, .int .i64 0, .int .i64 0, .slice none 0 0] 24))
    have K4 := K2.alloc (.cells #[.int .i64 2, .int .i64 n1, .int .i64 0, .int .i64 0, .slice none 0 0] 24)
    have O4 := box_new w2.heap.size w2 24 [.int .i64 2, .int .i64 n1, .int .i64 0, .int .i64 0, .slice none 0 0] (Nat.le_refl _) (by simp)
    have hck0 := rcheck_any 2 n1 0 0 none 0 0 [] (w2.alloc (.cells #[.int .i64 2, .int .i64 n1, .int .i64 0, .int .i64 0, .slice none 0 0] 24)) (AtC.none _) (by omega)
    by_cases hck : checkD ⟨2, n1, 0, 0, []⟩ = 0
    · rw [hck] at hck0
      have HP : Hid (parseD s = (⟨2, n1, 0, 0, []⟩, 0)) := by show _ = _; rw [HC.out]; exact checked_ok hck
      clear hck
      go_wp2_with fail
      refine hck0.mono ?_
      rintro e w5 ⟨rfl, t5⟩
      have A5 := A4.kept t5
      have K5 := K4.trans t5
      have O5 := O4.kept t5
      have o0 : (w5).cell? ⟨w2.heap.size, 0, none⟩ = some (.int .i64 2) := O5.cell 0 (by simp)
      have o1 : (w5).cell? ⟨w2.heap.size, 1, none⟩ = some (.int .i64 n1) := O5.cell 1 (by simp)
      have o2 : (w5).cell? ⟨w2.heap.size, 2, none⟩ = some (.int .i64 0) := O5.cell 2 (by simp)
      have o3 : (w5).cell? ⟨w2.heap.size, 3, none⟩ = some (.int .i64 0) := O5.cell 3 (by simp)
      have o4 : (w5).cell? ⟨w2.heap.size, 4, none⟩ = some (.slice none 0 0) := O5.cell 4 (by simp)
      have ol := O5.lt.2
      have p0 : (w5).cell? ⟨w.heap.size, 0, none⟩ = some (.int .i64 0) := A5.cell 0 (by simp)
      have p1 : (w5).cell? ⟨w.heap.size, 1, none⟩ = some (.int .i64 0) := A5.cell 1 (by simp)
      have p2 : (w5).cell? ⟨w.heap.size, 2, none⟩ = some (.int .i64 0) := A5.cell 2 (by simp)
      have p3 : (w5).cell? ⟨w.heap.size, 3, none⟩ = some (.int .i64 0) := A5.cell 3 (by simp)
      have p4 : (w5).cell? ⟨w.heap.size, 4, none⟩ = some (.slice none 0 0) := A5.cell 4 (by simp)
      have pf0 := A5.frozen 0
      have pf1 := A5.frozen 1
      have pf2 := A5.frozen 2
      have pf3 := A5.frozen 3
      have pf4 := A5.frozen 4
      have pl := A5.lt.2
      go_wp2_with fail
      (try simp only [Exit.inBlock, Exit.then])
      refine bodyPost_ret (v := .tuple #[.agg #[.int .i64 2, .int .i64 n1, .int .i64 0, .int .i64 0, .slice none 0 0], .int .i64 0]) ?_ rfl ⟨.slice none 0 0, by rw [HP.out] <;> rfl, by rw [HP.out]; exact CRow.nil _ _ _, (turn_set5 w5 w.heap.size (.int .i64 2) (.int .i64 n1) (.int .i64 0) (.int .i64 0) (.slice none 0 0)).kept K5 (fun i hi => by omega)⟩
      rw [results_cell_tmp rfl]
      go_simp
    · have hne2 : (checkD ⟨2, n1, 0, 0, []⟩ != 0) = true := by simp [hck]
      have HP : Hid (parseD s = (zeroD, checkD ⟨2, n1, 0, 0, []⟩)) := by show _ = _; rw [HC.out]; exact checked_no hck
      clear hck
      go_wp2_with fail
      refine hck0.mono ?_
      rintro e w5 ⟨rfl, t5⟩
      have A5 := A4.kept t5
      have K5 := K4.trans t5
      have p0 : (w5).cell? ⟨w.heap.size, 0, none⟩ = some (.int .i64 0) := A5.cell 0 (by simp)
      have p1 : (w5).cell? ⟨w.heap.size, 1, none⟩ = some (.int .i64 0) := A5.cell 1 (by simp)
      have p2 : (w5).cell? ⟨w.heap.size, 2, none⟩ = some (.int .i64 0) := A5.cell 2 (by simp)
      have p3 : (w5).cell? ⟨w.heap.size, 3, none⟩ = some (.int .i64 0) := A5.cell 3 (by simp)
      have p4 : (w5).cell? ⟨w.heap.size, 4, none⟩ = some (.slice none 0 0) := A5.cell 4 (by simp)
      have pf0 := A5.frozen 0
      have pf1 := A5.frozen 1
      have pf2 := A5.frozen 2
      have pf3 := A5.frozen 3
      have pf4 := A5.frozen 4
      have pl := A5.lt.2
      go_wp2_with fail
      (try simp only [Exit.inBlock, Exit.then])
      refine bodyPost_ret (v := .tuple #[.agg #[.int .i64 0, .int .i64 0, .int .i64 0, .int .i64 0, .slice none 0 0], .int .i64 (checkD ⟨2, n1, 0, 0, []⟩)]) ?_ rfl ⟨.slice none 0 0, by rw [HP.out] <;> rfl, by rw [HP.out]; exact CRow.nil _ _ _, ((turn_set5 (w5) w.heap.size (.int .i64 0) (.int .i64 0) (.int .i64 0) (.int .i64 0) (.slice none 0 0)).kept K5 (fun i hi => by omega))⟩
      rw [results_cell_tmp rfl]
      go_simp
  · have hne : (e1 != 0) = true := by simp [he]
    have HP : Hid (parseD s = (zeroD, e1)) := by show _ = _; rw [HR.out]; exact checked_err (by simp only [readD, HN1.out]; simp [he]) he
    clear he
    have p0 : (w2).cell? ⟨w.heap.size, 0, none⟩ = some (.int .i64 0) := A2.cell 0 (by simp)
    have p1 : (w2).cell? ⟨w.heap.size, 1, none⟩ = some (.int .i64 0) := A2.cell 1 (by simp)
    have p2 : (w2).cell? ⟨w.heap.size, 2, none⟩ = some (.int .i64 0) := A2.cell 2 (by simp)
    have p3 : (w2).cell? ⟨w.heap.size, 3, none⟩ = some (.int .i64 0) := A2.cell 3 (by simp)
    have p4 : (w2).cell? ⟨w.heap.size, 4, none⟩ = some (.slice none 0 0) := A2.cell 4 (by simp)
    have pf0 := A2.frozen 0
    have pf1 := A2.frozen 1
    have pf2 := A2.frozen 2
    have pf3 := A2.frozen 3
    have pf4 := A2.frozen 4
    have pl := A2.lt.2
    go_wp2_with fail
    (try simp only [Exit.inBlock, Exit.then])
    refine bodyPost_ret (v := .tuple #[.agg #[.int .i64 0, .int .i64 0, .int .i64 0, .int .i64 0, .slice none 0 0], .int .i64 e1]) ?_ rfl ⟨.slice none 0 0, by rw [HP.out] <;> rfl, by rw [HP.out]; exact CRow.nil _ _ _, ((turn_set5 (w2) w.heap.size (.int .i64 0) (.int .i64 0) (.int .i64 0) (.int .i64 0) (.slice none 0 0)).kept K2 (fun i hi => by omega)).alloc _⟩
    rw [results_cell_tmp rfl]
    go_simp

set_option maxHeartbeats 4000000 in
set_option maxRecDepth 10000 in
theorem rparse_k3 (s x y : List UInt8) (hl : s.length ≤ 1000) (w : World) (hso : splitOf s = some [x, y]) (hk : kindOf x = 3) : RPar s w := by
  have HR : Hid (parseD s = checked (readD 3 [y])) := by
    show _ = _
    have := parse_read hso (by rw [hk]; decide) (by rw [hk]; rfl)
    rw [hk] at this
    exact this
  have HWX : Hid (∀ t0 ∈ [x, y], t0.length ≤ s.length) := splitOf_mem hso
  have ly : y.length ≤ 100000 := by have := HWX.out y (by simp); omega
  have A0 := box_new w.heap.size w 24 [.int .i64 0, .int .i64 0, .int .i64 0, .int .i64 0, .slice none 0 0] (Nat.le_refl _) (by simp)
  have K0 := (Kept.refl w).alloc (.cells #[.int .i64 0, .int .i64 0, .int .i64 0, .int .i64 0, .slice none 0 0] 24)
  have hsp := rsplit_any s (by omega) (w.alloc (.cells #[.int .i64 0, .int .i64 0, .int .i64 0, .int .i64 0, .slice none 0 0] 24))
  rw [hso, show splitE (some [x, y]) = 0 from rfl, show splitR (some [x, y]) = [x, y] from rfl] at hsp
  clear hso HWX
  unfold RPar
  go_enter Tryd.func21, Tryd.ntmps21
  go_wp2_with fail
  refine hsp.mono ?_
  rintro e w1 ⟨v1, rfl, r1, t1⟩
  have A1 := A0.kept t1
  have K1 := K0.trans t1
  obtain ⟨a1, c1, hv1, _, hat1⟩ := StrRow.view r1
  subst hv1
  obtain ⟨b, f, rfl, hx0, _⟩ := hat1.head
  have HA1 : Hid (At w1 (some ⟨b, f, none⟩) 2 [x, y]) := hat1
  clear hat1 r1 hsp
  go_wp2_with fail
  refine (rkind_any x w1).mono ?_
  rintro e w2 ⟨rfl, t2⟩
  have A2 := A1.kept t2
  have K2 := K1.trans t2
  have hbl : b < w2.heap.size := by have := cell_lt hx0; have := t2.size; simp only at *; omega
  have hlt : w.heap.size < w2.heap.size := A2.lt.2
  rw [hk]
  clear hk hx0
  have HA2 : Hid (At w2 (some ⟨b, f, none⟩) 2 [x, y]) := HA1.out.kept t2
  have hx1 : w2.cell? ⟨b, f + 1, none⟩ = some (.string (B y)) := atCell HA2.out 1 y rfl
  have A3 := A2.kept ((Kept.refl w2).alloc (.cells #[.int .i64 3, .int .i64 0, .int .i64 0, .int .i64 0, .slice none 0 0] 24))
  have K3 := K2.alloc (.cells #[.int .i64 3, .int .i64 0, .int .i64 0, .int .i64 0, .slice none 0 0] 24)
  have hla := rlaid_any 3 (by omega) (by omega) (some ⟨b, f, none⟩) c1 [x, y] (w2.alloc (.cells #[.int .i64 3, .int .i64 0, .int .i64 0, .int .i64 0, .slice none 0 0] 24)) (HA2.out.kept ((Kept.refl w2).alloc _)) (by simp)
  rw [show fitsB (shapeOf 3) [x, y] = true from rfl] at hla
  go_wp2_with fail
  refine hla.mono ?_
  rintro e w3 ⟨rfl, hw3⟩
  subst w3
  obtain ⟨n1, e1, hn1⟩ : ∃ n e, numOf y = (n, e) := ⟨_, _, rfl⟩
  have HN1 : Hid (numOf y = (n1, e1)) := hn1
  have hnu1 := rnumber_any y ly (w2.alloc (.cells #[.int .i64 3, .int .i64 0, .int .i64 0, .int .i64 0, .slice none 0 0] 24))
  rw [hn1] at hnu1
  clear hn1
  go_wp2_with fail
  refine hnu1.mono ?_
  rintro e w4 ⟨rfl, hw4⟩
  subst w4
  by_cases he : e1 = 0
  · subst he
    have HC : Hid (parseD s = checked (⟨3, n1, 0, 0, []⟩, 0)) := by show _ = _; rw [HR.out]; simp only [readD, HN1.out]; simp
    have A4 := A2.kept ((Kept.refl w2).alloc (.cells #[.int .i64 3, .int .i64 n1, .int .i64 0, .int .i64 0, .slice none 0 0] 24))
    have K4 := K2.alloc (.cells #[.int .i64 3, .int .i64 n1, .int .i64 0, .int .i64 0, .slice none 0 0] 24)
    have O4 := box_new w2.heap.size w2 24 [.int .i64 3, .int .i64 n1, .int .i64 0, .int .i64 0, .slice none 0 0] (Nat.le_refl _) (by simp)
    have hck0 := rcheck_any 3 n1 0 0 none 0 0 [] (w2.alloc (.cells #[.int .i64 3, .int .i64 n1, .int .i64 0, .int .i64 0, .slice none 0 0] 24)) (AtC.none _) (by omega)
    by_cases hck : checkD ⟨3, n1, 0, 0, []⟩ = 0
    · rw [hck] at hck0
      have HP : Hid (parseD s = (⟨3, n1, 0, 0, []⟩, 0)) := by show _ = _; rw [HC.out]; exact checked_ok hck
      clear hck
      go_wp2_with fail
      refine hck0.mono ?_
      rintro e w5 ⟨rfl, t5⟩
      have A5 := A4.kept t5
      have K5 := K4.trans t5
      have O5 := O4.kept t5
      have o0 : (w5).cell? ⟨w2.heap.size, 0, none⟩ = some (.int .i64 3) := O5.cell 0 (by simp)
      have o1 : (w5).cell? ⟨w2.heap.size, 1, none⟩ = some (.int .i64 n1) := O5.cell 1 (by simp)
      have o2 : (w5).cell? ⟨w2.heap.size, 2, none⟩ = some (.int .i64 0) := O5.cell 2 (by simp)
      have o3 : (w5).cell? ⟨w2.heap.size, 3, none⟩ = some (.int .i64 0) := O5.cell 3 (by simp)
      have o4 : (w5).cell? ⟨w2.heap.size, 4, none⟩ = some (.slice none 0 0) := O5.cell 4 (by simp)
      have ol := O5.lt.2
      have p0 : (w5).cell? ⟨w.heap.size, 0, none⟩ = some (.int .i64 0) := A5.cell 0 (by simp)
      have p1 : (w5).cell? ⟨w.heap.size, 1, none⟩ = some (.int .i64 0) := A5.cell 1 (by simp)
      have p2 : (w5).cell? ⟨w.heap.size, 2, none⟩ = some (.int .i64 0) := A5.cell 2 (by simp)
      have p3 : (w5).cell? ⟨w.heap.size, 3, none⟩ = some (.int .i64 0) := A5.cell 3 (by simp)
      have p4 : (w5).cell? ⟨w.heap.size, 4, none⟩ = some (.slice none 0 0) := A5.cell 4 (by simp)
      have pf0 := A5.frozen 0
      have pf1 := A5.frozen 1
      have pf2 := A5.frozen 2
      have pf3 := A5.frozen 3
      have pf4 := A5.frozen 4
      have pl := A5.lt.2
      go_wp2_with fail
      (try simp only [Exit.inBlock, Exit.then])
      refine bodyPost_ret (v := .tuple #[.agg #[.int .i64 3, .int .i64 n1, .int .i64 0, .int .i64 0, .slice none 0 0], .int .i64 0]) ?_ rfl ⟨.slice none 0 0, by rw [HP.out] <;> rfl, by rw [HP.out]; exact CRow.nil _ _ _, (turn_set5 w5 w.heap.size (.int .i64 3) (.int .i64 n1) (.int .i64 0) (.int .i64 0) (.slice none 0 0)).kept K5 (fun i hi => by omega)⟩
      rw [results_cell_tmp rfl]
      go_simp
    · have hne2 : (checkD ⟨3, n1, 0, 0, []⟩ != 0) = true := by simp [hck]
      have HP : Hid (parseD s = (zeroD, checkD ⟨3, n1, 0, 0, []⟩)) := by show _ = _; rw [HC.out]; exact checked_no hck
      clear hck
      go_wp2_with fail
      refine hck0.mono ?_
      rintro e w5 ⟨rfl, t5⟩
      have A5 := A4.kept t5
      have K5 := K4.trans t5
      have p0 : (w5).cell? ⟨w.heap.size, 0, none⟩ = some (.int .i64 0) := A5.cell 0 (by simp)
      have p1 : (w5).cell? ⟨w.heap.size, 1, none⟩ = some (.int .i64 0) := A5.cell 1 (by simp)
      have p2 : (w5).cell? ⟨w.heap.size, 2, none⟩ = some (.int .i64 0) := A5.cell 2 (by simp)
      have p3 : (w5).cell? ⟨w.heap.size, 3, none⟩ = some (.int .i64 0) := A5.cell 3 (by simp)
      have p4 : (w5).cell? ⟨w.heap.size, 4, none⟩ = some (.slice none 0 0) := A5.cell 4 (by simp)
      have pf0 := A5.frozen 0
      have pf1 := A5.frozen 1
      have pf2 := A5.frozen 2
      have pf3 := A5.frozen 3
      have pf4 := A5.frozen 4
      have pl := A5.lt.2
      go_wp2_with fail
      (try simp only [Exit.inBlock, Exit.then])
      refine bodyPost_ret (v := .tuple #[.agg #[.int .i64 0, .int .i64 0, .int .i64 0, .int .i64 0, .slice none 0 0], .int .i64 (checkD ⟨3, n1, 0, 0, []⟩)]) ?_ rfl ⟨.slice none 0 0, by rw [HP.out] <;> rfl, by rw [HP.out]; exact CRow.nil _ _ _, ((turn_set5 (w5) w.heap.size (.int .i64 0) (.int .i64 0) (.int .i64 0) (.int .i64 0) (.slice none 0 0)).kept K5 (fun i hi => by omega))⟩
      rw [results_cell_tmp rfl]
      go_simp
  · have hne : (e1 != 0) = true := by simp [he]
    have HP : Hid (parseD s = (zeroD, e1)) := by show _ = _; rw [HR.out]; exact checked_err (by simp only [readD, HN1.out]; simp [he]) he
    clear he
    have p0 : (w2).cell? ⟨w.heap.size, 0, none⟩ = some (.int .i64 0) := A2.cell 0 (by simp)
    have p1 : (w2).cell? ⟨w.heap.size, 1, none⟩ = some (.int .i64 0) := A2.cell 1 (by simp)
    have p2 : (w2).cell? ⟨w.heap.size, 2, none⟩ = some (.int .i64 0) := A2.cell 2 (by simp)
    have p3 : (w2).cell? ⟨w.heap.size, 3, none⟩ = some (.int .i64 0) := A2.cell 3 (by simp)
    have p4 : (w2).cell? ⟨w.heap.size, 4, none⟩ = some (.slice none 0 0) := A2.cell 4 (by simp)
    have pf0 := A2.frozen 0
    have pf1 := A2.frozen 1
    have pf2 := A2.frozen 2
    have pf3 := A2.frozen 3
    have pf4 := A2.frozen 4
    have pl := A2.lt.2
    go_wp2_with fail
    (try simp only [Exit.inBlock, Exit.then])
    refine bodyPost_ret (v := .tuple #[.agg #[.int .i64 0, .int .i64 0, .int .i64 0, .int .i64 0, .slice none 0 0], .int .i64 e1]) ?_ rfl ⟨.slice none 0 0, by rw [HP.out] <;> rfl, by rw [HP.out]; exact CRow.nil _ _ _, ((turn_set5 (w2) w.heap.size (.int .i64 0) (.int .i64 0) (.int .i64 0) (.int .i64 0) (.slice none 0 0)).kept K2 (fun i hi => by omega)).alloc _⟩
    rw [results_cell_tmp rfl]
    go_simp

set_option maxHeartbeats 4000000 in
set_option maxRecDepth 10000 in
theorem rparse_k6 (s x y : List UInt8) (hl : s.length ≤ 1000) (w : World) (hso : splitOf s = some [x, y]) (hk : kindOf x = 6) : RPar s w := by
  have HR : Hid (parseD s = checked (readD 6 [y])) := by
    show _ = _
    have := parse_read hso (by rw [hk]; decide) (by rw [hk]; rfl)
    rw [hk] at this
    exact this
  have HWX : Hid (∀ t0 ∈ [x, y], t0.length ≤ s.length) := splitOf_mem hso
  have ly : y.length ≤ 100000 := by have := HWX.out y (by simp); omega
  have A0 := box_new w.heap.size w 24 [.int .i64 0, .int .i64 0, .int .i64 0, .int .i64 0, .slice none 0 0] (Nat.le_refl _) (by simp)
  have K0 := (Kept.refl w).alloc (.cells #[.int .i64 0, .int .i64 0, .int .i64 0, .int .i64 0, .slice none 0 0] 24)
  have hsp := rsplit_any s (by omega) (w.alloc (.cells #[.int .i64 0, .int .i64 0, .int .i64 0, .int .i64 0, .slice none 0 0] 24))
  rw [hso, show splitE (some [x, y]) = 0 from rfl, show splitR (some [x, y]) = [x, y] from rfl] at hsp
  clear hso HWX
  unfold RPar
  go_enter Tryd.func21, Tryd.ntmps21
  go_wp2_with fail
  refine hsp.mono ?_
  rintro e w1 ⟨v1, rfl, r1, t1⟩
  have A1 := A0.kept t1
  have K1 := K0.trans t1
  obtain ⟨a1, c1, hv1, _, hat1⟩ := StrRow.view r1
  subst hv1
  obtain ⟨b, f, rfl, hx0, _⟩ := hat1.head
  have HA1 : Hid (At w1 (some ⟨b, f, none⟩) 2 [x, y]) := hat1
  clear hat1 r1 hsp
  go_wp2_with fail
  refine (rkind_any x w1).mono ?_
  rintro e w2 ⟨rfl, t2⟩
  have A2 := A1.kept t2
  have K2 := K1.trans t2
  have hbl : b < w2.heap.size := by have := cell_lt hx0; have := t2.size; simp only at *; omega
  have hlt : w.heap.size < w2.heap.size := A2.lt.2
  rw [hk]
  clear hk hx0
  have HA2 : Hid (At w2 (some ⟨b, f, none⟩) 2 [x, y]) := HA1.out.kept t2
  have hx1 : w2.cell? ⟨b, f + 1, none⟩ = some (.string (B y)) := atCell HA2.out 1 y rfl
  have A3 := A2.kept ((Kept.refl w2).alloc (.cells #[.int .i64 6, .int .i64 0, .int .i64 0, .int .i64 0, .slice none 0 0] 24))
  have K3 := K2.alloc (.cells #[.int .i64 6, .int .i64 0, .int .i64 0, .int .i64 0, .slice none 0 0] 24)
  have hla := rlaid_any 6 (by omega) (by omega) (some ⟨b, f, none⟩) c1 [x, y] (w2.alloc (.cells #[.int .i64 6, .int .i64 0, .int .i64 0, .int .i64 0, .slice none 0 0] 24)) (HA2.out.kept ((Kept.refl w2).alloc _)) (by simp)
  rw [show fitsB (shapeOf 6) [x, y] = true from rfl] at hla
  go_wp2_with fail
  refine hla.mono ?_
  rintro e w3 ⟨rfl, hw3⟩
  subst w3
  obtain ⟨n1, e1, hn1⟩ : ∃ n e, numOf y = (n, e) := ⟨_, _, rfl⟩
  have HN1 : Hid (numOf y = (n1, e1)) := hn1
  have hnu1 := rnumber_any y ly (w2.alloc (.cells #[.int .i64 6, .int .i64 0, .int .i64 0, .int .i64 0, .slice none 0 0] 24))
  rw [hn1] at hnu1
  clear hn1
  go_wp2_with fail
  refine hnu1.mono ?_
  rintro e w4 ⟨rfl, hw4⟩
  subst w4
  by_cases he : e1 = 0
  · subst he
    have HC : Hid (parseD s = checked (⟨6, n1, 0, 0, []⟩, 0)) := by show _ = _; rw [HR.out]; simp only [readD, HN1.out]; simp
    have A4 := A2.kept ((Kept.refl w2).alloc (.cells #[.int .i64 6, .int .i64 n1, .int .i64 0, .int .i64 0, .slice none 0 0] 24))
    have K4 := K2.alloc (.cells #[.int .i64 6, .int .i64 n1, .int .i64 0, .int .i64 0, .slice none 0 0] 24)
    have O4 := box_new w2.heap.size w2 24 [.int .i64 6, .int .i64 n1, .int .i64 0, .int .i64 0, .slice none 0 0] (Nat.le_refl _) (by simp)
    have hck0 := rcheck_any 6 n1 0 0 none 0 0 [] (w2.alloc (.cells #[.int .i64 6, .int .i64 n1, .int .i64 0, .int .i64 0, .slice none 0 0] 24)) (AtC.none _) (by omega)
    by_cases hck : checkD ⟨6, n1, 0, 0, []⟩ = 0
    · rw [hck] at hck0
      have HP : Hid (parseD s = (⟨6, n1, 0, 0, []⟩, 0)) := by show _ = _; rw [HC.out]; exact checked_ok hck
      clear hck
      go_wp2_with fail
      refine hck0.mono ?_
      rintro e w5 ⟨rfl, t5⟩
      have A5 := A4.kept t5
      have K5 := K4.trans t5
      have O5 := O4.kept t5
      have o0 : (w5).cell? ⟨w2.heap.size, 0, none⟩ = some (.int .i64 6) := O5.cell 0 (by simp)
      have o1 : (w5).cell? ⟨w2.heap.size, 1, none⟩ = some (.int .i64 n1) := O5.cell 1 (by simp)
      have o2 : (w5).cell? ⟨w2.heap.size, 2, none⟩ = some (.int .i64 0) := O5.cell 2 (by simp)
      have o3 : (w5).cell? ⟨w2.heap.size, 3, none⟩ = some (.int .i64 0) := O5.cell 3 (by simp)
      have o4 : (w5).cell? ⟨w2.heap.size, 4, none⟩ = some (.slice none 0 0) := O5.cell 4 (by simp)
      have ol := O5.lt.2
      have p0 : (w5).cell? ⟨w.heap.size, 0, none⟩ = some (.int .i64 0) := A5.cell 0 (by simp)
      have p1 : (w5).cell? ⟨w.heap.size, 1, none⟩ = some (.int .i64 0) := A5.cell 1 (by simp)
      have p2 : (w5).cell? ⟨w.heap.size, 2, none⟩ = some (.int .i64 0) := A5.cell 2 (by simp)
      have p3 : (w5).cell? ⟨w.heap.size, 3, none⟩ = some (.int .i64 0) := A5.cell 3 (by simp)
      have p4 : (w5).cell? ⟨w.heap.size, 4, none⟩ = some (.slice none 0 0) := A5.cell 4 (by simp)
      have pf0 := A5.frozen 0
      have pf1 := A5.frozen 1
      have pf2 := A5.frozen 2
      have pf3 := A5.frozen 3
      have pf4 := A5.frozen 4
      have pl := A5.lt.2
      go_wp2_with fail
      (try simp only [Exit.inBlock, Exit.then])
      refine bodyPost_ret (v := .tuple #[.agg #[.int .i64 6, .int .i64 n1, .int .i64 0, .int .i64 0, .slice none 0 0], .int .i64 0]) ?_ rfl ⟨.slice none 0 0, by rw [HP.out] <;> rfl, by rw [HP.out]; exact CRow.nil _ _ _, (turn_set5 w5 w.heap.size (.int .i64 6) (.int .i64 n1) (.int .i64 0) (.int .i64 0) (.slice none 0 0)).kept K5 (fun i hi => by omega)⟩
      rw [results_cell_tmp rfl]
      go_simp
    · have hne2 : (checkD ⟨6, n1, 0, 0, []⟩ != 0) = true := by simp [hck]
      have HP : Hid (parseD s = (zeroD, checkD ⟨6, n1, 0, 0, []⟩)) := by show _ = _; rw [HC.out]; exact checked_no hck
      clear hck
      go_wp2_with fail
      refine hck0.mono ?_
      rintro e w5 ⟨rfl, t5⟩
      have A5 := A4.kept t5
      have K5 := K4.trans t5
      have p0 : (w5).cell? ⟨w.heap.size, 0, none⟩ = some (.int .i64 0) := A5.cell 0 (by simp)
      have p1 : (w5).cell? ⟨w.heap.size, 1, none⟩ = some (.int .i64 0) := A5.cell 1 (by simp)
      have p2 : (w5).cell? ⟨w.heap.size, 2, none⟩ = some (.int .i64 0) := A5.cell 2 (by simp)
      have p3 : (w5).cell? ⟨w.heap.size, 3, none⟩ = some (.int .i64 0) := A5.cell 3 (by simp)
      have p4 : (w5).cell? ⟨w.heap.size, 4, none⟩ = some (.slice none 0 0) := A5.cell 4 (by simp)
      have pf0 := A5.frozen 0
      have pf1 := A5.frozen 1
      have pf2 := A5.frozen 2
      have pf3 := A5.frozen 3
      have pf4 := A5.frozen 4
      have pl := A5.lt.2
      go_wp2_with fail
      (try simp only [Exit.inBlock, Exit.then])
      refine bodyPost_ret (v := .tuple #[.agg #[.int .i64 0, .int .i64 0, .int .i64 0, .int .i64 0, .slice none 0 0], .int .i64 (checkD ⟨6, n1, 0, 0, []⟩)]) ?_ rfl ⟨.slice none 0 0, by rw [HP.out] <;> rfl, by rw [HP.out]; exact CRow.nil _ _ _, ((turn_set5 (w5) w.heap.size (.int .i64 0) (.int .i64 0) (.int .i64 0) (.int .i64 0) (.slice none 0 0)).kept K5 (fun i hi => by omega))⟩
      rw [results_cell_tmp rfl]
      go_simp
  · have hne : (e1 != 0) = true := by simp [he]
    have HP : Hid (parseD s = (zeroD, e1)) := by show _ = _; rw [HR.out]; exact checked_err (by simp only [readD, HN1.out]; simp [he]) he
    clear he
    have p0 : (w2).cell? ⟨w.heap.size, 0, none⟩ = some (.int .i64 0) := A2.cell 0 (by simp)
    have p1 : (w2).cell? ⟨w.heap.size, 1, none⟩ = some (.int .i64 0) := A2.cell 1 (by simp)
    have p2 : (w2).cell? ⟨w.heap.size, 2, none⟩ = some (.int .i64 0) := A2.cell 2 (by simp)
    have p3 : (w2).cell? ⟨w.heap.size, 3, none⟩ = some (.int .i64 0) := A2.cell 3 (by simp)
    have p4 : (w2).cell? ⟨w.heap.size, 4, none⟩ = some (.slice none 0 0) := A2.cell 4 (by simp)
    have pf0 := A2.frozen 0
    have pf1 := A2.frozen 1
    have pf2 := A2.frozen 2
    have pf3 := A2.frozen 3
    have pf4 := A2.frozen 4
    have pl := A2.lt.2
    go_wp2_with fail
    (try simp only [Exit.inBlock, Exit.then])
    refine bodyPost_ret (v := .tuple #[.agg #[.int .i64 0, .int .i64 0, .int .i64 0, .int .i64 0, .slice none 0 0], .int .i64 e1]) ?_ rfl ⟨.slice none 0 0, by rw [HP.out] <;> rfl, by rw [HP.out]; exact CRow.nil _ _ _, ((turn_set5 (w2) w.heap.size (.int .i64 0) (.int .i64 0) (.int .i64 0) (.int .i64 0) (.slice none 0 0)).kept K2 (fun i hi => by omega)).alloc _⟩
    rw [results_cell_tmp rfl]
    go_simp

set_option maxHeartbeats 4000000 in
set_option maxRecDepth 10000 in
theorem rparse_k8 (s x y : List UInt8) (hl : s.length ≤ 1000) (w : World) (hso : splitOf s = some [x, y]) (hk : kindOf x = 8) : RPar s w := by
  have HR : Hid (parseD s = checked (readD 8 [y])) := by
    show _ = _
    have := parse_read hso (by rw [hk]; decide) (by rw [hk]; rfl)
    rw [hk] at this
    exact this
  have HWX : Hid (∀ t0 ∈ [x, y], t0.length ≤ s.length) := splitOf_mem hso
  have ly : y.length ≤ 100000 := by have := HWX.out y (by simp); omega
  have A0 := box_new w.heap.size w 24 [.int .i64 0, .int .i64 0, .int .i64 0, .int .i64 0, .slice none 0 0] (Nat.le_refl _) (by simp)
  have K0 := (Kept.refl w).alloc (.cells #[.int .i64 0, .int .i64 0, .int .i64 0, .int .i64 0, .slice none 0 0] 24)
  have hsp := rsplit_any s (by omega) (w.alloc (.cells #[.int .i64 0, .int .i64 0, .int .i64 0, .int .i64 0, .slice none 0 0] 24))
  rw [hso, show splitE (some [x, y]) = 0 from rfl, show splitR (some [x, y]) = [x, y] from rfl] at hsp
  clear hso HWX
  unfold RPar
  go_enter Tryd.func21, Tryd.ntmps21
  go_wp2_with fail
  refine hsp.mono ?_
  rintro e w1 ⟨v1, rfl, r1, t1⟩
  have A1 := A0.kept t1
  have K1 := K0.trans t1
  obtain ⟨a1, c1, hv1, _, hat1⟩ := StrRow.view r1
  subst hv1
  obtain ⟨b, f, rfl, hx0, _⟩ := hat1.head
  have HA1 : Hid (At w1 (some ⟨b, f, none⟩) 2 [x, y]) := hat1
  clear hat1 r1 hsp
  go_wp2_with fail
  refine (rkind_any x w1).mono ?_
  rintro e w2 ⟨rfl, t2⟩
  have A2 := A1.kept t2
  have K2 := K1.trans t2
  have hbl : b < w2.heap.size := by have := cell_lt hx0; have := t2.size; simp only at *; omega
  have hlt : w.heap.size < w2.heap.size := A2.lt.2
  rw [hk]
  clear hk hx0
  have HA2 : Hid (At w2 (some ⟨b, f, none⟩) 2 [x, y]) := HA1.out.kept t2
  have hx1 : w2.cell? ⟨b, f + 1, none⟩ = some (.string (B y)) := atCell HA2.out 1 y rfl
  have A3 := A2.kept ((Kept.refl w2).alloc (.cells #[.int .i64 8, .int .i64 0, .int .i64 0, .int .i64 0, .slice none 0 0] 24))
  have K3 := K2.alloc (.cells #[.int .i64 8, .int .i64 0, .int .i64 0, .int .i64 0, .slice none 0 0] 24)
  have hla := rlaid_any 8 (by omega) (by omega) (some ⟨b, f, none⟩) c1 [x, y] (w2.alloc (.cells #[.int .i64 8, .int .i64 0, .int .i64 0, .int .i64 0, .slice none 0 0] 24)) (HA2.out.kept ((Kept.refl w2).alloc _)) (by simp)
  rw [show fitsB (shapeOf 8) [x, y] = true from rfl] at hla
  go_wp2_with fail
  refine hla.mono ?_
  rintro e w3 ⟨rfl, hw3⟩
  subst w3
  obtain ⟨n1, e1, hn1⟩ : ∃ n e, numOf y = (n, e) := ⟨_, _, rfl⟩
  have HN1 : Hid (numOf y = (n1, e1)) := hn1
  have hnu1 := rnumber_any y ly (w2.alloc (.cells #[.int .i64 8, .int .i64 0, .int .i64 0, .int .i64 0, .slice none 0 0] 24))
  rw [hn1] at hnu1
  clear hn1
  go_wp2_with fail
  refine hnu1.mono ?_
  rintro e w4 ⟨rfl, hw4⟩
  subst w4
  by_cases he : e1 = 0
  · subst he
    have HC : Hid (parseD s = checked (⟨8, n1, 0, 0, []⟩, 0)) := by show _ = _; rw [HR.out]; simp only [readD, HN1.out]; simp
    have A4 := A2.kept ((Kept.refl w2).alloc (.cells #[.int .i64 8, .int .i64 n1, .int .i64 0, .int .i64 0, .slice none 0 0] 24))
    have K4 := K2.alloc (.cells #[.int .i64 8, .int .i64 n1, .int .i64 0, .int .i64 0, .slice none 0 0] 24)
    have O4 := box_new w2.heap.size w2 24 [.int .i64 8, .int .i64 n1, .int .i64 0, .int .i64 0, .slice none 0 0] (Nat.le_refl _) (by simp)
    have hck0 := rcheck_any 8 n1 0 0 none 0 0 [] (w2.alloc (.cells #[.int .i64 8, .int .i64 n1, .int .i64 0, .int .i64 0, .slice none 0 0] 24)) (AtC.none _) (by omega)
    by_cases hck : checkD ⟨8, n1, 0, 0, []⟩ = 0
    · rw [hck] at hck0
      have HP : Hid (parseD s = (⟨8, n1, 0, 0, []⟩, 0)) := by show _ = _; rw [HC.out]; exact checked_ok hck
      clear hck
      go_wp2_with fail
      refine hck0.mono ?_
      rintro e w5 ⟨rfl, t5⟩
      have A5 := A4.kept t5
      have K5 := K4.trans t5
      have O5 := O4.kept t5
      have o0 : (w5).cell? ⟨w2.heap.size, 0, none⟩ = some (.int .i64 8) := O5.cell 0 (by simp)
      have o1 : (w5).cell? ⟨w2.heap.size, 1, none⟩ = some (.int .i64 n1) := O5.cell 1 (by simp)
      have o2 : (w5).cell? ⟨w2.heap.size, 2, none⟩ = some (.int .i64 0) := O5.cell 2 (by simp)
      have o3 : (w5).cell? ⟨w2.heap.size, 3, none⟩ = some (.int .i64 0) := O5.cell 3 (by simp)
      have o4 : (w5).cell? ⟨w2.heap.size, 4, none⟩ = some (.slice none 0 0) := O5.cell 4 (by simp)
      have ol := O5.lt.2
      have p0 : (w5).cell? ⟨w.heap.size, 0, none⟩ = some (.int .i64 0) := A5.cell 0 (by simp)
      have p1 : (w5).cell? ⟨w.heap.size, 1, none⟩ = some (.int .i64 0) := A5.cell 1 (by simp)
      have p2 : (w5).cell? ⟨w.heap.size, 2, none⟩ = some (.int .i64 0) := A5.cell 2 (by simp)
      have p3 : (w5).cell? ⟨w.heap.size, 3, none⟩ = some (.int .i64 0) := A5.cell 3 (by simp)
      have p4 : (w5).cell? ⟨w.heap.size, 4, none⟩ = some (.slice none 0 0) := A5.cell 4 (by simp)
      have pf0 := A5.frozen 0
      have pf1 := A5.frozen 1
      have pf2 := A5.frozen 2
      have pf3 := A5.frozen 3
      have pf4 := A5.frozen 4
      have pl := A5.lt.2
      go_wp2_with fail
      (try simp only [Exit.inBlock, Exit.then])
      refine bodyPost_ret (v := .tuple #[.agg #[.int .i64 8, .int .i64 n1, .int .i64 0, .int .i64 0, .slice none 0 0], .int .i64 0]) ?_ rfl ⟨.slice none 0 0, by rw [HP.out] <;> rfl, by rw [HP.out]; exact CRow.nil _ _ _, (turn_set5 w5 w.heap.size (.int .i64 8) (.int .i64 n1) (.int .i64 0) (.int .i64 0) (.slice none 0 0)).kept K5 (fun i hi => by omega)⟩
      rw [results_cell_tmp rfl]
      go_simp
    · have hne2 : (checkD ⟨8, n1, 0, 0, []⟩ != 0) = true := by simp [hck]
      have HP : Hid (parseD s = (zeroD, checkD ⟨8, n1, 0, 0, []⟩)) := by show _ = _; rw [HC.out]; exact checked_no hck
      clear hck
      go_wp2_with fail
      refine hck0.mono ?_
      rintro e w5 ⟨rfl, t5⟩
      have A5 := A4.kept t5
      have K5 := K4.trans t5
      have p0 : (w5).cell? ⟨w.heap.size, 0, none⟩ = some (.int .i64 0) := A5.cell 0 (by simp)
      have p1 : (w5).cell? ⟨w.heap.size, 1, none⟩ = some (.int .i64 0) := A5.cell 1 (by simp)
      have p2 : (w5).cell? ⟨w.heap.size, 2, none⟩ = some (.int .i64 0) := A5.cell 2 (by simp)
      have p3 : (w5).cell? ⟨w.heap.size, 3, none⟩ = some (.int .i64 0) := A5.cell 3 (by simp)
      have p4 : (w5).cell? ⟨w.heap.size, 4, none⟩ = some (.slice none 0 0) := A5.cell 4 (by simp)
      have pf0 := A5.frozen 0
      have pf1 := A5.frozen 1
      have pf2 := A5.frozen 2
      have pf3 := A5.frozen 3
      have pf4 := A5.frozen 4
      have pl := A5.lt.2
      go_wp2_with fail
      (try simp only [Exit.inBlock, Exit.then])
      refine bodyPost_ret (v := .tuple #[.agg #[.int .i64 0, .int .i64 0, .int .i64 0, .int .i64 0, .slice none 0 0], .int .i64 (checkD ⟨8, n1, 0, 0, []⟩)]) ?_ rfl ⟨.slice none 0 0, by rw [HP.out] <;> rfl, by rw [HP.out]; exact CRow.nil _ _ _, ((turn_set5 (w5) w.heap.size (.int .i64 0) (.int .i64 0) (.int .i64 0) (.int .i64 0) (.slice none 0 0)).kept K5 (fun i hi => by omega))⟩
      rw [results_cell_tmp rfl]
      go_simp
  · have hne : (e1 != 0) = true := by simp [he]
    have HP : Hid (parseD s = (zeroD, e1)) := by show _ = _; rw [HR.out]; exact checked_err (by simp only [readD, HN1.out]; simp [he]) he
    clear he
    have p0 : (w2).cell? ⟨w.heap.size, 0, none⟩ = some (.int .i64 0) := A2.cell 0 (by simp)
    have p1 : (w2).cell? ⟨w.heap.size, 1, none⟩ = some (.int .i64 0) := A2.cell 1 (by simp)
    have p2 : (w2).cell? ⟨w.heap.size, 2, none⟩ = some (.int .i64 0) := A2.cell 2 (by simp)
    have p3 : (w2).cell? ⟨w.heap.size, 3, none⟩ = some (.int .i64 0) := A2.cell 3 (by simp)
    have p4 : (w2).cell? ⟨w.heap.size, 4, none⟩ = some (.slice none 0 0) := A2.cell 4 (by simp)
    have pf0 := A2.frozen 0
    have pf1 := A2.frozen 1
    have pf2 := A2.frozen 2
    have pf3 := A2.frozen 3
    have pf4 := A2.frozen 4
    have pl := A2.lt.2
    go_wp2_with fail
    (try simp only [Exit.inBlock, Exit.then])
    refine bodyPost_ret (v := .tuple #[.agg #[.int .i64 0, .int .i64 0, .int .i64 0, .int .i64 0, .slice none 0 0], .int .i64 e1]) ?_ rfl ⟨.slice none 0 0, by rw [HP.out] <;> rfl, by rw [HP.out]; exact CRow.nil _ _ _, ((turn_set5 (w2) w.heap.size (.int .i64 0) (.int .i64 0) (.int .i64 0) (.int .i64 0) (.slice none 0 0)).kept K2 (fun i hi => by omega)).alloc _⟩
    rw [results_cell_tmp rfl]
    go_simp

set_option maxHeartbeats 4000000 in
set_option maxRecDepth 10000 in
theorem rparse_k4 (s x y z q : List UInt8) (hl : s.length ≤ 1000) (w : World) (hso : splitOf s = some [x, y, z, q]) (hk : kindOf x = 4) : RPar s w := by
  have HR : Hid (parseD s = checked (readD 4 [y, z, q])) := by
    show _ = _
    have := parse_read hso (by rw [hk]; decide) (by rw [hk]; rfl)
    rw [hk] at this
    exact this
  have HWX : Hid (∀ t0 ∈ [x, y, z, q], t0.length ≤ s.length) := splitOf_mem hso
  have ly : y.length ≤ 100000 := by have := HWX.out y (by simp); omega
  have lz : z.length ≤ 100000 := by have := HWX.out z (by simp); omega
  have lq : q.length ≤ 100000 := by have := HWX.out q (by simp); omega
  have A0 := box_new w.heap.size w 24 [.int .i64 0, .int .i64 0, .int .i64 0, .int .i64 0, .slice none 0 0] (Nat.le_refl _) (by simp)
  have K0 := (Kept.refl w).alloc (.cells #[.int .i64 0, .int .i64 0, .int .i64 0, .int .i64 0, .slice none 0 0] 24)
  have hsp := rsplit_any s (by omega) (w.alloc (.cells #[.int .i64 0, .int .i64 0, .int .i64 0, .int .i64 0, .slice none 0 0] 24))
  rw [hso, show splitE (some [x, y, z, q]) = 0 from rfl, show splitR (some [x, y, z, q]) = [x, y, z, q] from rfl] at hsp
  clear hso HWX
  unfold RPar
  go_enter Tryd.func21, Tryd.ntmps21
  go_wp2_with fail
  refine hsp.mono ?_
  rintro e w1 ⟨v1, rfl, r1, t1⟩
  have A1 := A0.kept t1
  have K1 := K0.trans t1
  obtain ⟨a1, c1, hv1, _, hat1⟩ := StrRow.view r1
  subst hv1
  obtain ⟨b, f, rfl, hx0, _⟩ := hat1.head
  have HA1 : Hid (At w1 (some ⟨b, f, none⟩) 4 [x, y, z, q]) := hat1
  clear hat1 r1 hsp
  go_wp2_with fail
  refine (rkind_any x w1).mono ?_
  rintro e w2 ⟨rfl, t2⟩
  have A2 := A1.kept t2
  have K2 := K1.trans t2
  have hbl : b < w2.heap.size := by have := cell_lt hx0; have := t2.size; simp only at *; omega
  have hlt : w.heap.size < w2.heap.size := A2.lt.2
  rw [hk]
  clear hk hx0
  have HA2 : Hid (At w2 (some ⟨b, f, none⟩) 4 [x, y, z, q]) := HA1.out.kept t2
  have hx1 : w2.cell? ⟨b, f + 1, none⟩ = some (.string (B y)) := atCell HA2.out 1 y rfl
  have hx2 : w2.cell? ⟨b, f + 2, none⟩ = some (.string (B z)) := atCell HA2.out 2 z rfl
  have hx3 : w2.cell? ⟨b, f + 3, none⟩ = some (.string (B q)) := atCell HA2.out 3 q rfl
  have A3 := A2.kept ((Kept.refl w2).alloc (.cells #[.int .i64 4, .int .i64 0, .int .i64 0, .int .i64 0, .slice none 0 0] 24))
  have K3 := K2.alloc (.cells #[.int .i64 4, .int .i64 0, .int .i64 0, .int .i64 0, .slice none 0 0] 24)
  have hla := rlaid_any 4 (by omega) (by omega) (some ⟨b, f, none⟩) c1 [x, y, z, q] (w2.alloc (.cells #[.int .i64 4, .int .i64 0, .int .i64 0, .int .i64 0, .slice none 0 0] 24)) (HA2.out.kept ((Kept.refl w2).alloc _)) (by simp)
  rw [show fitsB (shapeOf 4) [x, y, z, q] = true from rfl] at hla
  go_wp2_with fail
  refine hla.mono ?_
  rintro e w3 ⟨rfl, hw3⟩
  subst w3
  obtain ⟨n1, e1, hn1⟩ : ∃ n e, numOf y = (n, e) := ⟨_, _, rfl⟩
  have HN1 : Hid (numOf y = (n1, e1)) := hn1
  have hnu1 := rnumber_any y ly (w2.alloc (.cells #[.int .i64 4, .int .i64 0, .int .i64 0, .int .i64 0, .slice none 0 0] 24))
  rw [hn1] at hnu1
  clear hn1
  go_wp2_with fail
  refine hnu1.mono ?_
  rintro e w4 ⟨rfl, hw4⟩
  subst w4
  by_cases he : e1 = 0
  · subst he
    obtain ⟨n2, e2, hn2⟩ : ∃ n e, numOf z = (n, e) := ⟨_, _, rfl⟩
    have HN2 : Hid (numOf z = (n2, e2)) := hn2
    have hnu2 := rnumber_any z lz (w2.alloc (.cells #[.int .i64 4, .int .i64 n1, .int .i64 0, .int .i64 0, .slice none 0 0] 24))
    rw [hn2] at hnu2
    clear hn2
    go_wp2_with fail
    refine hnu2.mono ?_
    rintro e w4 ⟨rfl, hw4⟩
    subst w4
    by_cases he : e2 = 0
    · subst he
      obtain ⟨n3, e3, hn3⟩ : ∃ n e, waitOf q = (n, e) := ⟨_, _, rfl⟩
      have HN3 : Hid (waitOf q = (n3, e3)) := hn3
      have hnu3 := rparseWait_any q lq (w2.alloc (.cells #[.int .i64 4, .int .i64 n1, .int .i64 n2, .int .i64 0, .slice none 0 0] 24))
      rw [hn3] at hnu3
      clear hn3
      go_wp2_with fail
      refine hnu3.mono ?_
      rintro e w4 ⟨rfl, hw4⟩
      subst w4
      by_cases he : e3 = 0
      · subst he
        have HC : Hid (parseD s = checked (⟨4, n1, n2, n3, []⟩, 0)) := by show _ = _; rw [HR.out]; simp only [readD, HN1.out, HN2.out, HN3.out]; simp
        have A4 := A2.kept ((Kept.refl w2).alloc (.cells #[.int .i64 4, .int .i64 n1, .int .i64 n2, .int .i64 n3, .slice none 0 0] 24))
        have K4 := K2.alloc (.cells #[.int .i64 4, .int .i64 n1, .int .i64 n2, .int .i64 n3, .slice none 0 0] 24)
        have O4 := box_new w2.heap.size w2 24 [.int .i64 4, .int .i64 n1, .int .i64 n2, .int .i64 n3, .slice none 0 0] (Nat.le_refl _) (by simp)
        have hck0 := rcheck_any 4 n1 n2 n3 none 0 0 [] (w2.alloc (.cells #[.int .i64 4, .int .i64 n1, .int .i64 n2, .int .i64 n3, .slice none 0 0] 24)) (AtC.none _) (by omega)
        by_cases hck : checkD ⟨4, n1, n2, n3, []⟩ = 0
        · rw [hck] at hck0
          have HP : Hid (parseD s = (⟨4, n1, n2, n3, []⟩, 0)) := by show _ = _; rw [HC.out]; exact checked_ok hck
          clear hck
          go_wp2_with fail
          refine hck0.mono ?_
          rintro e w5 ⟨rfl, t5⟩
          have A5 := A4.kept t5
          have K5 := K4.trans t5
          have O5 := O4.kept t5
          have o0 : (w5).cell? ⟨w2.heap.size, 0, none⟩ = some (.int .i64 4) := O5.cell 0 (by simp)
          have o1 : (w5).cell? ⟨w2.heap.size, 1, none⟩ = some (.int .i64 n1) := O5.cell 1 (by simp)
          have o2 : (w5).cell? ⟨w2.heap.size, 2, none⟩ = some (.int .i64 n2) := O5.cell 2 (by simp)
          have o3 : (w5).cell? ⟨w2.heap.size, 3, none⟩ = some (.int .i64 n3) := O5.cell 3 (by simp)
          have o4 : (w5).cell? ⟨w2.heap.size, 4, none⟩ = some (.slice none 0 0) := O5.cell 4 (by simp)
          have ol := O5.lt.2
          have p0 : (w5).cell? ⟨w.heap.size, 0, none⟩ = some (.int .i64 0) := A5.cell 0 (by simp)
          have p1 : (w5).cell? ⟨w.heap.size, 1, none⟩ = some (.int .i64 0) := A5.cell 1 (by simp)
          have p2 : (w5).cell? ⟨w.heap.size, 2, none⟩ = some (.int .i64 0) := A5.cell 2 (by simp)
          have p3 : (w5).cell? ⟨w.heap.size, 3, none⟩ = some (.int .i64 0) := A5.cell 3 (by simp)
          have p4 : (w5).cell? ⟨w.heap.size, 4, none⟩ = some (.slice none 0 0) := A5.cell 4 (by simp)
          have pf0 := A5.frozen 0
          have pf1 := A5.frozen 1
          have pf2 := A5.frozen 2
          have pf3 := A5.frozen 3
          have pf4 := A5.frozen 4
          have pl := A5.lt.2
          go_wp2_with fail
          (try simp only [Exit.inBlock, Exit.then])
          refine bodyPost_ret (v := .tuple #[.agg #[.int .i64 4, .int .i64 n1, .int .i64 n2, .int .i64 n3, .slice none 0 0], .int .i64 0]) ?_ rfl ⟨.slice none 0 0, by rw [HP.out] <;> rfl, by rw [HP.out]; exact CRow.nil _ _ _, (turn_set5 w5 w.heap.size (.int .i64 4) (.int .i64 n1) (.int .i64 n2) (.int .i64 n3) (.slice none 0 0)).kept K5 (fun i hi => by omega)⟩
          rw [results_cell_tmp rfl]
          go_simp
        · have hne2 : (checkD ⟨4, n1, n2, n3, []⟩ != 0) = true := by simp [hck]
          have HP : Hid (parseD s = (zeroD, checkD ⟨4, n1, n2, n3, []⟩)) := by show _ = _; rw [HC.out]; exact checked_no hck
          clear hck
          go_wp2_with fail
          refine hck0.mono ?_
          rintro e w5 ⟨rfl, t5⟩
          have A5 := A4.kept t5
          have K5 := K4.trans t5
          have p0 : (w5).cell? ⟨w.heap.size, 0, none⟩ = some (.int .i64 0) := A5.cell 0 (by simp)
          have p1 : (w5).cell? ⟨w.heap.size, 1, none⟩ = some (.int .i64 0) := A5.cell 1 (by simp)
          have p2 : (w5).cell? ⟨w.heap.size, 2, none⟩ = some (.int .i64 0) := A5.cell 2 (by simp)
          have p3 : (w5).cell? ⟨w.heap.size, 3, none⟩ = some (.int .i64 0) := A5.cell 3 (by simp)
          have p4 : (w5).cell? ⟨w.heap.size, 4, none⟩ = some (.slice none 0 0) := A5.cell 4 (by simp)
          have pf0 := A5.frozen 0
          have pf1 := A5.frozen 1
          have pf2 := A5.frozen 2
          have pf3 := A5.frozen 3
          have pf4 := A5.frozen 4
          have pl := A5.lt.2
          go_wp2_with fail
          (try simp only [Exit.inBlock, Exit.then])
          refine bodyPost_ret (v := .tuple #[.agg #[.int .i64 0, .int .i64 0, .int .i64 0, .int .i64 0, .slice none 0 0], .int .i64 (checkD ⟨4, n1, n2, n3, []⟩)]) ?_ rfl ⟨.slice none 0 0, by rw [HP.out] <;> rfl, by rw [HP.out]; exact CRow.nil _ _ _, ((turn_set5 (w5) w.heap.size (.int .i64 0) (.int .i64 0) (.int .i64 0) (.int .i64 0) (.slice none 0 0)).kept K5 (fun i hi => by omega))⟩
          rw [results_cell_tmp rfl]
          go_simp
      · have hne : (e3 != 0) = true := by simp [he]
        have HP : Hid (parseD s = (zeroD, e3)) := by show _ = _; rw [HR.out]; exact checked_err (by simp only [readD, HN1.out, HN2.out, HN3.out]; simp [he]) he
        clear he
        have p0 : (w2).cell? ⟨w.heap.size, 0, none⟩ = some (.int .i64 0) := A2.cell 0 (by simp)
        have p1 : (w2).cell? ⟨w.heap.size, 1, none⟩ = some (.int .i64 0) := A2.cell 1 (by simp)
        have p2 : (w2).cell? ⟨w.heap.size, 2, none⟩ = some (.int .i64 0) := A2.cell 2 (by simp)
        have p3 : (w2).cell? ⟨w.heap.size, 3, none⟩ = some (.int .i64 0) := A2.cell 3 (by simp)
        have p4 : (w2).cell? ⟨w.heap.size, 4, none⟩ = some (.slice none 0 0) := A2.cell 4 (by simp)
        have pf0 := A2.frozen 0
        have pf1 := A2.frozen 1
        have pf2 := A2.frozen 2
        have pf3 := A2.frozen 3
        have pf4 := A2.frozen 4
        have pl := A2.lt.2
        go_wp2_with fail
        (try simp only [Exit.inBlock, Exit.then])
        refine bodyPost_ret (v := .tuple #[.agg #[.int .i64 0, .int .i64 0, .int .i64 0, .int .i64 0, .slice none 0 0], .int .i64 e3]) ?_ rfl ⟨.slice none 0 0, by rw [HP.out] <;> rfl, by rw [HP.out]; exact CRow.nil _ _ _, ((turn_set5 (w2) w.heap.size (.int .i64 0) (.int .i64 0) (.int .i64 0) (.int .i64 0) (.slice none 0 0)).kept K2 (fun i hi => by omega)).alloc _⟩
        rw [results_cell_tmp rfl]
        go_simp
    · have hne : (e2 != 0) = true := by simp [he]
      have HP : Hid (parseD s = (zeroD, e2)) := by show _ = _; rw [HR.out]; exact checked_err (by simp only [readD, HN1.out, HN2.out]; simp [he]) he
      clear he
      have p0 : (w2).cell? ⟨w.heap.size, 0, none⟩ = some (.int .i64 0) := A2.cell 0 (by simp)
      have p1 : (w2).cell? ⟨w.heap.size, 1, none⟩ = some (.int .i64 0) := A2.cell 1 (by simp)
      have p2 : (w2).cell? ⟨w.heap.size, 2, none⟩ = some (.int .i64 0) := A2.cell 2 (by simp)
      have p3 : (w2).cell? ⟨w.heap.size, 3, none⟩ = some (.int .i64 0) := A2.cell 3 (by simp)
      have p4 : (w2).cell? ⟨w.heap.size, 4, none⟩ = some (.slice none 0 0) := A2.cell 4 (by simp)
      have pf0 := A2.frozen 0
      have pf1 := A2.frozen 1
      have pf2 := A2.frozen 2
      have pf3 := A2.frozen 3
      have pf4 := A2.frozen 4
      have pl := A2.lt.2
      go_wp2_with fail
      (try simp only [Exit.inBlock, Exit.then])
      refine bodyPost_ret (v := .tuple #[.agg #[.int .i64 0, .int .i64 0, .int .i64 0, .int .i64 0, .slice none 0 0], .int .i64 e2]) ?_ rfl ⟨.slice none 0 0, by rw [HP.out] <;> rfl, by rw [HP.out]; exact CRow.nil _ _ _, ((turn_set5 (w2) w.heap.size (.int .i64 0) (.int .i64 0) (.int .i64 0) (.int .i64 0) (.slice none 0 0)).kept K2 (fun i hi => by omega)).alloc _⟩
      rw [results_cell_tmp rfl]
      go_simp
  · have hne : (e1 != 0) = true := by simp [he]
    have HP : Hid (parseD s = (zeroD, e1)) := by show _ = _; rw [HR.out]; exact checked_err (by simp only [readD, HN1.out]; simp [he]) he
    clear he
    have p0 : (w2).cell? ⟨w.heap.size, 0, none⟩ = some (.int .i64 0) := A2.cell 0 (by simp)
    have p1 : (w2).cell? ⟨w.heap.size, 1, none⟩ = some (.int .i64 0) := A2.cell 1 (by simp)
    have p2 : (w2).cell? ⟨w.heap.size, 2, none⟩ = some (.int .i64 0) := A2.cell 2 (by simp)
    have p3 : (w2).cell? ⟨w.heap.size, 3, none⟩ = some (.int .i64 0) := A2.cell 3 (by simp)
    have p4 : (w2).cell? ⟨w.heap.size, 4, none⟩ = some (.slice none 0 0) := A2.cell 4 (by simp)
    have pf0 := A2.frozen 0
    have pf1 := A2.frozen 1
    have pf2 := A2.frozen 2
    have pf3 := A2.frozen 3
    have pf4 := A2.frozen 4
    have pl := A2.lt.2
    go_wp2_with fail
    (try simp only [Exit.inBlock, Exit.then])
    refine bodyPost_ret (v := .tuple #[.agg #[.int .i64 0, .int .i64 0, .int .i64 0, .int .i64 0, .slice none 0 0], .int .i64 e1]) ?_ rfl ⟨.slice none 0 0, by rw [HP.out] <;> rfl, by rw [HP.out]; exact CRow.nil _ _ _, ((turn_set5 (w2) w.heap.size (.int .i64 0) (.int .i64 0) (.int .i64 0) (.int .i64 0) (.slice none 0 0)).kept K2 (fun i hi => by omega)).alloc _⟩
    rw [results_cell_tmp rfl]
    go_simp

set_option maxHeartbeats 4000000 in
set_option maxRecDepth 10000 in
theorem rparse_k5 (s x y q : List UInt8) (hl : s.length ≤ 1000) (w : World) (hso : splitOf s = some [x, y, q]) (hk : kindOf x = 5) : RPar s w := by
  have HR : Hid (parseD s = checked (readD 5 [y, q])) := by
    show _ = _
    have := parse_read hso (by rw [hk]; decide) (by rw [hk]; rfl)
    rw [hk] at this
    exact this
  have HWX : Hid (∀ t0 ∈ [x, y, q], t0.length ≤ s.length) := splitOf_mem hso
  have ly : y.length ≤ 100000 := by have := HWX.out y (by simp); omega
  have lq : q.length ≤ 100000 := by have := HWX.out q (by simp); omega
  have A0 := box_new w.heap.size w 24 [.int .i64 0, .int .i64 0, .int .i64 0, .int .i64 0, .slice none 0 0] (Nat.le_refl _) (by simp)
  have K0 := (Kept.refl w).alloc (.cells #[.int .i64 0, .int .i64 0, .int .i64 0, .int .i64 0, .slice none 0 0] 24)
  have hsp := rsplit_any s (by omega) (w.alloc (.cells #[.int .i64 0, .int .i64 0, .int .i64 0, .int .i64 0, .slice none 0 0] 24))
  rw [hso, show splitE (some [x, y, q]) = 0 from rfl, show splitR (some [x, y, q]) = [x, y, q] from rfl] at hsp
  clear hso HWX
  unfold RPar
  go_enter Tryd.func21, Tryd.ntmps21
  go_wp2_with fail
  refine hsp.mono ?_
  rintro e w1 ⟨v1, rfl, r1, t1⟩
  have A1 := A0.kept t1
  have K1 := K0.trans t1
  obtain ⟨a1, c1, hv1, _, hat1⟩ := StrRow.view r1
  subst hv1
  obtain ⟨b, f, rfl, hx0, _⟩ := hat1.head
  have HA1 : Hid (At w1 (some ⟨b, f, none⟩) 3 [x, y, q]) := hat1
  clear hat1 r1 hsp
  go_wp2_with fail
  refine (rkind_any x w1).mono ?_
  rintro e w2 ⟨rfl, t2⟩
  have A2 := A1.kept t2
  have K2 := K1.trans t2
  have hbl : b < w2.heap.size := by have := cell_lt hx0; have := t2.size; simp only at *; omega
  have hlt : w.heap.size < w2.heap.size := A2.lt.2
  rw [hk]
  clear hk hx0
  have HA2 : Hid (At w2 (some ⟨b, f, none⟩) 3 [x, y, q]) := HA1.out.kept t2
  have hx1 : w2.cell? ⟨b, f + 1, none⟩ = some (.string (B y)) := atCell HA2.out 1 y rfl
  have hx2 : w2.cell? ⟨b, f + 2, none⟩ = some (.string (B q)) := atCell HA2.out 2 q rfl
  have A3 := A2.kept ((Kept.refl w2).alloc (.cells #[.int .i64 5, .int .i64 0, .int .i64 0, .int .i64 0, .slice none 0 0] 24))
  have K3 := K2.alloc (.cells #[.int .i64 5, .int .i64 0, .int .i64 0, .int .i64 0, .slice none 0 0] 24)
  have hla := rlaid_any 5 (by omega) (by omega) (some ⟨b, f, none⟩) c1 [x, y, q] (w2.alloc (.cells #[.int .i64 5, .int .i64 0, .int .i64 0, .int .i64 0, .slice none 0 0] 24)) (HA2.out.kept ((Kept.refl w2).alloc _)) (by simp)
  rw [show fitsB (shapeOf 5) [x, y, q] = true from rfl] at hla
  go_wp2_with fail
  refine hla.mono ?_
  rintro e w3 ⟨rfl, hw3⟩
  subst w3
  obtain ⟨n1, e1, hn1⟩ : ∃ n e, numOf y = (n, e) := ⟨_, _, rfl⟩
  have HN1 : Hid (numOf y = (n1, e1)) := hn1
  have hnu1 := rnumber_any y ly (w2.alloc (.cells #[.int .i64 5, .int .i64 0, .int .i64 0, .int .i64 0, .slice none 0 0] 24))
  rw [hn1] at hnu1
  clear hn1
  go_wp2_with fail
  refine hnu1.mono ?_
  rintro e w4 ⟨rfl, hw4⟩
  subst w4
  by_cases he : e1 = 0
  · subst he
    obtain ⟨n3, e3, hn3⟩ : ∃ n e, waitOf q = (n, e) := ⟨_, _, rfl⟩
    have HN3 : Hid (waitOf q = (n3, e3)) := hn3
    have hnu3 := rparseWait_any q lq (w2.alloc (.cells #[.int .i64 5, .int .i64 n1, .int .i64 0, .int .i64 0, .slice none 0 0] 24))
    rw [hn3] at hnu3
    clear hn3
    go_wp2_with fail
    refine hnu3.mono ?_
    rintro e w4 ⟨rfl, hw4⟩
    subst w4
    by_cases he : e3 = 0
    · subst he
      have HC : Hid (parseD s = checked (⟨5, n1, 0, n3, []⟩, 0)) := by show _ = _; rw [HR.out]; simp only [readD, HN1.out, HN3.out]; simp
      have A4 := A2.kept ((Kept.refl w2).alloc (.cells #[.int .i64 5, .int .i64 n1, .int .i64 0, .int .i64 n3, .slice none 0 0] 24))
      have K4 := K2.alloc (.cells #[.int .i64 5, .int .i64 n1, .int .i64 0, .int .i64 n3, .slice none 0 0] 24)
      have O4 := box_new w2.heap.size w2 24 [.int .i64 5, .int .i64 n1, .int .i64 0, .int .i64 n3, .slice none 0 0] (Nat.le_refl _) (by simp)
      have hck0 := rcheck_any 5 n1 0 n3 none 0 0 [] (w2.alloc (.cells #[.int .i64 5, .int .i64 n1, .int .i64 0, .int .i64 n3, .slice none 0 0] 24)) (AtC.none _) (by omega)
      by_cases hck : checkD ⟨5, n1, 0, n3, []⟩ = 0
      · rw [hck] at hck0
        have HP : Hid (parseD s = (⟨5, n1, 0, n3, []⟩, 0)) := by show _ = _; rw [HC.out]; exact checked_ok hck
        clear hck
        go_wp2_with fail
        refine hck0.mono ?_
        rintro e w5 ⟨rfl, t5⟩
        have A5 := A4.kept t5
        have K5 := K4.trans t5
        have O5 := O4.kept t5
        have o0 : (w5).cell? ⟨w2.heap.size, 0, none⟩ = some (.int .i64 5) := O5.cell 0 (by simp)
        have o1 : (w5).cell? ⟨w2.heap.size, 1, none⟩ = some (.int .i64 n1) := O5.cell 1 (by simp)
        have o2 : (w5).cell? ⟨w2.heap.size, 2, none⟩ = some (.int .i64 0) := O5.cell 2 (by simp)
        have o3 : (w5).cell? ⟨w2.heap.size, 3, none⟩ = some (.int .i64 n3) := O5.cell 3 (by simp)
        have o4 : (w5).cell? ⟨w2.heap.size, 4, none⟩ = some (.slice none 0 0) := O5.cell 4 (by simp)
        have ol := O5.lt.2
        have p0 : (w5).cell? ⟨w.heap.size, 0, none⟩ = some (.int .i64 0) := A5.cell 0 (by simp)
        have p1 : (w5).cell? ⟨w.heap.size, 1, none⟩ = some (.int .i64 0) := A5.cell 1 (by simp)
        have p2 : (w5).cell? ⟨w.heap.size, 2, none⟩ = some (.int .i64 0) := A5.cell 2 (by simp)
        have p3 : (w5).cell? ⟨w.heap.size, 3, none⟩ = some (.int .i64 0) := A5.cell 3 (by simp)
        have p4 : (w5).cell? ⟨w.heap.size, 4, none⟩ = some (.slice none 0 0) := A5.cell 4 (by simp)
        have pf0 := A5.frozen 0
        have pf1 := A5.frozen 1
        have pf2 := A5.frozen 2
        have pf3 := A5.frozen 3
        have pf4 := A5.frozen 4
        have pl := A5.lt.2
        go_wp2_with fail
        (try simp only [Exit.inBlock, Exit.then])
        refine bodyPost_ret (v := .tuple #[.agg #[.int .i64 5, .int .i64 n1, .int .i64 0, .int .i64 n3, .slice none 0 0], .int .i64 0]) ?_ rfl ⟨.slice none 0 0, by rw [HP.out] <;> rfl, by rw [HP.out]; exact CRow.nil _ _ _, (turn_set5 w5 w.heap.size (.int .i64 5) (.int .i64 n1) (.int .i64 0) (.int .i64 n3) (.slice none 0 0)).kept K5 (fun i hi => by omega)⟩
        rw [results_cell_tmp rfl]
        go_simp
      · have hne2 : (checkD ⟨5, n1, 0, n3, []⟩ != 0) = true := by simp [hck]
        have HP : Hid (parseD s = (zeroD, checkD ⟨5, n1, 0, n3, []⟩)) := by show _ = _; rw [HC.out]; exact checked_no hck
        clear hck
        go_wp2_with fail
        refine hck0.mono ?_
        rintro e w5 ⟨rfl, t5⟩
        have A5 := A4.kept t5
        have K5 := K4.trans t5
        have p0 : (w5).cell? ⟨w.heap.size, 0, none⟩ = some (.int .i64 0) := A5.cell 0 (by simp)
        have p1 : (w5).cell? ⟨w.heap.size, 1, none⟩ = some (.int .i64 0) := A5.cell 1 (by simp)
        have p2 : (w5).cell? ⟨w.heap.size, 2, none⟩ = some (.int .i64 0) := A5.cell 2 (by simp)
        have p3 : (w5).cell? ⟨w.heap.size, 3, none⟩ = some (.int .i64 0) := A5.cell 3 (by simp)
        have p4 : (w5).cell? ⟨w.heap.size, 4, none⟩ = some (.slice none 0 0) := A5.cell 4 (by simp)
        have pf0 := A5.frozen 0
        have pf1 := A5.frozen 1
        have pf2 := A5.frozen 2
        have pf3 := A5.frozen 3
        have pf4 := A5.frozen 4
        have pl := A5.lt.2
        go_wp2_with fail
        (try simp only [Exit.inBlock, Exit.then])
        refine bodyPost_ret (v := .tuple #[.agg #[.int .i64 0, .int .i64 0, .int .i64 0, .int .i64 0, .slice none 0 0], .int .i64 (checkD ⟨5, n1, 0, n3, []⟩)]) ?_ rfl ⟨.slice none 0 0, by rw [HP.out] <;> rfl, by rw [HP.out]; exact CRow.nil _ _ _, ((turn_set5 (w5) w.heap.size (.int .i64 0) (.int .i64 0) (.int .i64 0) (.int .i64 0) (.slice none 0 0)).kept K5 (fun i hi => by omega))⟩
        rw [results_cell_tmp rfl]
        go_simp
    · have hne : (e3 != 0) = true := by simp [he]
      have HP : Hid (parseD s = (zeroD, e3)) := by show _ = _; rw [HR.out]; exact checked_err (by simp only [readD, HN1.out, HN3.out]; simp [he]) he
      clear he
      have p0 : (w2).cell? ⟨w.heap.size, 0, none⟩ = some (.int .i64 0) := A2.cell 0 (by simp)
      have p1 : (w2).cell? ⟨w.heap.size, 1, none⟩ = some (.int .i64 0) := A2.cell 1 (by simp)
      have p2 : (w2).cell? ⟨w.heap.size, 2, none⟩ = some (.int .i64 0) := A2.cell 2 (by simp)
      have p3 : (w2).cell? ⟨w.heap.size, 3, none⟩ = some (.int .i64 0) := A2.cell 3 (by simp)
      have p4 : (w2).cell? ⟨w.heap.size, 4, none⟩ = some (.slice none 0 0) := A2.cell 4 (by simp)
      have pf0 := A2.frozen 0
      have pf1 := A2.frozen 1
      have pf2 := A2.frozen 2
      have pf3 := A2.frozen 3
      have pf4 := A2.frozen 4
      have pl := A2.lt.2
      go_wp2_with fail
      (try simp only [Exit.inBlock, Exit.then])
      refine bodyPost_ret (v := .tuple #[.agg #[.int .i64 0, .int .i64 0, .int .i64 0, .int .i64 0, .slice none 0 0], .int .i64 e3]) ?_ rfl ⟨.slice none 0 0, by rw [HP.out] <;> rfl, by rw [HP.out]; exact CRow.nil _ _ _, ((turn_set5 (w2) w.heap.size (.int .i64 0) (.int .i64 0) (.int .i64 0) (.int .i64 0) (.slice none 0 0)).kept K2 (fun i hi => by omega)).alloc _⟩
      rw [results_cell_tmp rfl]
      go_simp
  · have hne : (e1 != 0) = true := by simp [he]
    have HP : Hid (parseD s = (zeroD, e1)) := by show _ = _; rw [HR.out]; exact checked_err (by simp only [readD, HN1.out]; simp [he]) he
    clear he
    have p0 : (w2).cell? ⟨w.heap.size, 0, none⟩ = some (.int .i64 0) := A2.cell 0 (by simp)
    have p1 : (w2).cell? ⟨w.heap.size, 1, none⟩ = some (.int .i64 0) := A2.cell 1 (by simp)
    have p2 : (w2).cell? ⟨w.heap.size, 2, none⟩ = some (.int .i64 0) := A2.cell 2 (by simp)
    have p3 : (w2).cell? ⟨w.heap.size, 3, none⟩ = some (.int .i64 0) := A2.cell 3 (by simp)
    have p4 : (w2).cell? ⟨w.heap.size, 4, none⟩ = some (.slice none 0 0) := A2.cell 4 (by simp)
    have pf0 := A2.frozen 0
    have pf1 := A2.frozen 1
    have pf2 := A2.frozen 2
    have pf3 := A2.frozen 3
    have pf4 := A2.frozen 4
    have pl := A2.lt.2
    go_wp2_with fail
    (try simp only [Exit.inBlock, Exit.then])
    refine bodyPost_ret (v := .tuple #[.agg #[.int .i64 0, .int .i64 0, .int .i64 0, .int .i64 0, .slice none 0 0], .int .i64 e1]) ?_ rfl ⟨.slice none 0 0, by rw [HP.out] <;> rfl, by rw [HP.out]; exact CRow.nil _ _ _, ((turn_set5 (w2) w.heap.size (.int .i64 0) (.int .i64 0) (.int .i64 0) (.int .i64 0) (.slice none 0 0)).kept K2 (fun i hi => by omega)).alloc _⟩
    rw [results_cell_tmp rfl]
    go_simp

set_option maxHeartbeats 4000000 in
set_option maxRecDepth 10000 in
theorem rparse_k9 (s x : List UInt8) (hl : s.length ≤ 1000) (w : World) (hso : splitOf s = some [x]) (hk : kindOf x = 9) : RPar s w := by
  have HR : Hid (parseD s = checked (readD 9 [])) := by
    show _ = _
    have := parse_read hso (by rw [hk]; decide) (by rw [hk]; rfl)
    rw [hk] at this
    exact this
  have HWX : Hid (∀ t0 ∈ [x], t0.length ≤ s.length) := splitOf_mem hso
  have A0 := box_new w.heap.size w 24 [.int .i64 0, .int .i64 0, .int .i64 0, .int .i64 0, .slice none 0 0] (Nat.le_refl _) (by simp)
  have K0 := (Kept.refl w).alloc (.cells #[.int .i64 0, .int .i64 0, .int .i64 0, .int .i64 0, .slice none 0 0] 24)
  have hsp := rsplit_any s (by omega) (w.alloc (.cells #[.int .i64 0, .int .i64 0, .int .i64 0, .int .i64 0, .slice none 0 0] 24))
  rw [hso, show splitE (some [x]) = 0 from rfl, show splitR (some [x]) = [x] from rfl] at hsp
  clear hso HWX
  unfold RPar
  go_enter Tryd.func21, Tryd.ntmps21
  go_wp2_with fail
  refine hsp.mono ?_
  rintro e w1 ⟨v1, rfl, r1, t1⟩
  have A1 := A0.kept t1
  have K1 := K0.trans t1
  obtain ⟨a1, c1, hv1, _, hat1⟩ := StrRow.view r1
  subst hv1
  obtain ⟨b, f, rfl, hx0, _⟩ := hat1.head
  have HA1 : Hid (At w1 (some ⟨b, f, none⟩) 1 [x]) := hat1
  clear hat1 r1 hsp
  go_wp2_with fail
  refine (rkind_any x w1).mono ?_
  rintro e w2 ⟨rfl, t2⟩
  have A2 := A1.kept t2
  have K2 := K1.trans t2
  have hbl : b < w2.heap.size := by have := cell_lt hx0; have := t2.size; simp only at *; omega
  have hlt : w.heap.size < w2.heap.size := A2.lt.2
  rw [hk]
  clear hk hx0
  have HA2 : Hid (At w2 (some ⟨b, f, none⟩) 1 [x]) := HA1.out.kept t2
  have A3 := A2.kept ((Kept.refl w2).alloc (.cells #[.int .i64 9, .int .i64 0, .int .i64 0, .int .i64 0, .slice none 0 0] 24))
  have K3 := K2.alloc (.cells #[.int .i64 9, .int .i64 0, .int .i64 0, .int .i64 0, .slice none 0 0] 24)
  have hla := rlaid_any 9 (by omega) (by omega) (some ⟨b, f, none⟩) c1 [x] (w2.alloc (.cells #[.int .i64 9, .int .i64 0, .int .i64 0, .int .i64 0, .slice none 0 0] 24)) (HA2.out.kept ((Kept.refl w2).alloc _)) (by simp)
  rw [show fitsB (shapeOf 9) [x] = true from rfl] at hla
  go_wp2_with fail
  refine hla.mono ?_
  rintro e w3 ⟨rfl, hw3⟩
  subst w3
  have HC : Hid (parseD s = checked (⟨9, 0, 0, 0, []⟩, 0)) := by show _ = _; rw [HR.out]; rfl
  have A4 := A2.kept ((Kept.refl w2).alloc (.cells #[.int .i64 9, .int .i64 0, .int .i64 0, .int .i64 0, .slice none 0 0] 24))
  have K4 := K2.alloc (.cells #[.int .i64 9, .int .i64 0, .int .i64 0, .int .i64 0, .slice none 0 0] 24)
  have O4 := box_new w2.heap.size w2 24 [.int .i64 9, .int .i64 0, .int .i64 0, .int .i64 0, .slice none 0 0] (Nat.le_refl _) (by simp)
  have hck0 := rcheck_any 9 0 0 0 none 0 0 [] (w2.alloc (.cells #[.int .i64 9, .int .i64 0, .int .i64 0, .int .i64 0, .slice none 0 0] 24)) (AtC.none _) (by omega)
  by_cases hck : checkD ⟨9, 0, 0, 0, []⟩ = 0
  · rw [hck] at hck0
    have HP : Hid (parseD s = (⟨9, 0, 0, 0, []⟩, 0)) := by show _ = _; rw [HC.out]; exact checked_ok hck
    clear hck
    go_wp2_with fail
    refine hck0.mono ?_
    rintro e w5 ⟨rfl, t5⟩
    have A5 := A4.kept t5
    have K5 := K4.trans t5
    have O5 := O4.kept t5
    have o0 : (w5).cell? ⟨w2.heap.size, 0, none⟩ = some (.int .i64 9) := O5.cell 0 (by simp)
    have o1 : (w5).cell? ⟨w2.heap.size, 1, none⟩ = some (.int .i64 0) := O5.cell 1 (by simp)
    have o2 : (w5).cell? ⟨w2.heap.size, 2, none⟩ = some (.int .i64 0) := O5.cell 2 (by simp)
    have o3 : (w5).cell? ⟨w2.heap.size, 3, none⟩ = some (.int .i64 0) := O5.cell 3 (by simp)
    have o4 : (w5).cell? ⟨w2.heap.size, 4, none⟩ = some (.slice none 0 0) := O5.cell 4 (by simp)
    have ol := O5.lt.2
    have p0 : (w5).cell? ⟨w.heap.size, 0, none⟩ = some (.int .i64 0) := A5.cell 0 (by simp)
    have p1 : (w5).cell? ⟨w.heap.size, 1, none⟩ = some (.int .i64 0) := A5.cell 1 (by simp)
    have p2 : (w5).cell? ⟨w.heap.size, 2, none⟩ = some (.int .i64 0) := A5.cell 2 (by simp)
    have p3 : (w5).cell? ⟨w.heap.size, 3, none⟩ = some (.int .i64 0) := A5.cell 3 (by simp)
    have p4 : (w5).cell? ⟨w.heap.size, 4, none⟩ = some (.slice none 0 0) := A5.cell 4 (by simp)
    have pf0 := A5.frozen 0
    have pf1 := A5.frozen 1
    have pf2 := A5.frozen 2
    have pf3 := A5.frozen 3
    have pf4 := A5.frozen 4
    have pl := A5.lt.2
    go_wp2_with fail
    (try simp only [Exit.inBlock, Exit.then])
    refine bodyPost_ret (v := .tuple #[.agg #[.int .i64 9, .int .i64 0, .int .i64 0, .int .i64 0, .slice none 0 0], .int .i64 0]) ?_ rfl ⟨.slice none 0 0, by rw [HP.out] <;> rfl, by rw [HP.out]; exact CRow.nil _ _ _, (turn_set5 w5 w.heap.size (.int .i64 9) (.int .i64 0) (.int .i64 0) (.int .i64 0) (.slice none 0 0)).kept K5 (fun i hi => by omega)⟩
    rw [results_cell_tmp rfl]
    go_simp
  · have hne2 : (checkD ⟨9, 0, 0, 0, []⟩ != 0) = true := by simp [hck]
    have HP : Hid (parseD s = (zeroD, checkD ⟨9, 0, 0, 0, []⟩)) := by show _ = _; rw [HC.out]; exact checked_no hck
    clear hck
    go_wp2_with fail
    refine hck0.mono ?_
    rintro e w5 ⟨rfl, t5⟩
    have A5 := A4.kept t5
    have K5 := K4.trans t5
    have p0 : (w5).cell? ⟨w.heap.size, 0, none⟩ = some (.int .i64 0) := A5.cell 0 (by simp)
    have p1 : (w5).cell? ⟨w.heap.size, 1, none⟩ = some (.int .i64 0) := A5.cell 1 (by simp)
    have p2 : (w5).cell? ⟨w.heap.size, 2, none⟩ = some (.int .i64 0) := A5.cell 2 (by simp)
    have p3 : (w5).cell? ⟨w.heap.size, 3, none⟩ = some (.int .i64 0) := A5.cell 3 (by simp)
    have p4 : (w5).cell? ⟨w.heap.size, 4, none⟩ = some (.slice none 0 0) := A5.cell 4 (by simp)
    have pf0 := A5.frozen 0
    have pf1 := A5.frozen 1
    have pf2 := A5.frozen 2
    have pf3 := A5.frozen 3
    have pf4 := A5.frozen 4
    have pl := A5.lt.2
    go_wp2_with fail
    (try simp only [Exit.inBlock, Exit.then])
    refine bodyPost_ret (v := .tuple #[.agg #[.int .i64 0, .int .i64 0, .int .i64 0, .int .i64 0, .slice none 0 0], .int .i64 (checkD ⟨9, 0, 0, 0, []⟩)]) ?_ rfl ⟨.slice none 0 0, by rw [HP.out] <;> rfl, by rw [HP.out]; exact CRow.nil _ _ _, ((turn_set5 (w5) w.heap.size (.int .i64 0) (.int .i64 0) (.int .i64 0) (.int .i64 0) (.slice none 0 0)).kept K5 (fun i hi => by omega))⟩
    rw [results_cell_tmp rfl]
    go_simp

end Go.Proofs.YtiiddfahpddffaaDoor
