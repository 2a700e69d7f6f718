/- The row of the tasks; a place in it; what rises. -/
import Derived.Test.YtembbhbbmkijcaaDoorOrA
namespace Go.Proofs.YtembbhbbmkijcaaDoor
open Go.RowKit Go.Sort

theorem info3 : ∃ i, Tryd.prog.info? 3 = some i ∧ i.zero = some (.int .i64 0) ∧ i.size = 1 ∧ i.bytes = 8 := by
  obtain ⟨i, hi, hz0, hz1, hz2⟩ := info_parts nInt.inf
  exact ⟨i, hi, hz0, hz1, hz2⟩
theorem irow_frozen {e : TypeId} {B : Nat} {w : World} {g n c : Nat} {l : List Int} (h : IRow e B w (.slice (some ⟨g, 0, none⟩) n c) l) (hn : l.length = n) (j : Nat) : w.frozen? ⟨g, j, none⟩ = false := by
  subst hn
  unfold IRow at h
  exact h.frozenAt j
theorem irow_set {e : TypeId} {B : Nat} {w : World} {g n c : Nat} {l : List Int} (h : IRow e B w (.slice (some ⟨g, 0, none⟩) n c) l) (hn : l.length = n) (j : Nat) (x : Int) : IRow e B (w.setCell ⟨g, j, none⟩ (.int .i64 x)) (.slice (some ⟨g, 0, none⟩) n c) (l.set j x) := by
  subst hn
  unfold IRow at h ⊢
  rw [List.length_set, List.map_set]
  exact (World.ownsRow.stored h j (.int .i64 x)).1
theorem irow_made {B g n : Nat} {w : World} (h : w.ownsRow B 3 1 (.slice (some ⟨g, 0, none⟩) n n) n (madeCells (Value.int IntKind.i64 0).cells (n * 1)).toList) : IRow 3 B w (.slice (some ⟨g, 0, none⟩) n n) (List.replicate n 0) := by
  unfold IRow
  rw [List.length_replicate, ← made_zero]
  exact h
/-- The numbers up to a place, then noughts. -/
def upTo (n j : Nat) : List Int := (List.range n).map (fun i : Nat => if i < j then (i : Int) else 0)
theorem upTo_len (n j : Nat) : (upTo n j).length = n := by simp [upTo]
theorem upTo_zero (n : Nat) : upTo n 0 = List.replicate n 0 := by
  apply List.ext_getElem
  · simp [upTo]
  · intro i h1 h2
    simp [upTo]
theorem upTo_set (n j : Nat) : (upTo n j).set j (j : Int) = upTo n (j + 1) := by
  apply List.ext_getElem
  · simp [upTo]
  · intro i h1 h2
    rw [List.getElem_set]
    simp only [upTo, List.getElem_map, List.getElem_range]
    by_cases e : j = i
    · subst e
      rw [if_pos rfl, if_pos (by omega)]
    · rw [if_neg e]
      by_cases hlt : i < j
      · rw [if_pos hlt, if_pos (by omega)]
      · rw [if_neg hlt, if_neg (by omega)]
theorem upTo_get (n j : Nat) (h : j < n) : (upTo n j)[j]? = some 0 := by
  rw [List.getElem?_eq_getElem (by rw [upTo_len]; exact h)]
  simp [upTo]
theorem holdsF {B g n : Nat} {w : World} [Inhabited (Fin n)] (h : IRow 3 B w (.slice (some ⟨g, 0, none⟩) n n) (upTo n n)) : Holds encF w g 0 (idArr n) := by
  intro j hj
  rw [idArr_size] at hj
  rw [Nat.zero_add, idArr_get n j hj]
  refine ⟨?_, irow_frozen h (upTo_len n n) j⟩
  have h2 : IRow 3 B w (.slice (some ⟨g, 0, none⟩) (upTo n n).length n) (upTo n n) := by rw [upTo_len]; exact h
  rw [h2.cell j j (by rw [List.getElem?_eq_getElem (by rw [upTo_len]; exact hj)]; simp [upTo, hj])]
  rfl
/-- Cells of the row as numbers. -/
theorem holdsI {n g : Nat} {w : World} [Inhabited (Fin n)] {d : Array (Fin n)} {R : List Nat} (h : Holds encF w g 0 d) (hR : d.toList.map (·.1) = R) : Holds (Value.int .i64) w g 0 (R.map (fun j : Nat => (j : Int))).toArray := by
  subst hR
  intro j hj
  have hj2 : j < d.size := by simpa using hj
  obtain ⟨h1, h2⟩ := h j hj2
  refine ⟨?_, h2⟩
  rw [h1, getElem!_pos _ j hj2]
  simp [encF, hj2]
theorem irow_cell {e : TypeId} {B : Nat} {w : World} {g n c : Nat} {l : List Int} (h : IRow e B w (.slice (some ⟨g, 0, none⟩) n c) l) (hn : l.length = n) (j : Nat) (x : Int) (hx : l[j]? = some x) : w.cell? ⟨g, j, none⟩ = some (.int .i64 x) := by
  subst hn
  exact h.cell j x hx
theorem turns_sort {α : Type} [Inhabited α] (enc : α → Value) (w : World) (n g off : Nat) (d : Array α) (os : Array Obj) : Turns (fun k => k = g) w (sortWorld enc w g off n d os) := turns_grow (turns_put enc w n g off d) os

set_option maxHeartbeats 4000000 in
theorem row_any (L : Int) (ca : Option Addr) (nc cc : Nat) (a : Option Addr) (n c : Nat) (D : Nat → Int) (w : World) (hD : AtD w a n D) (h1 : 1 ≤ n) (h20 : n < 20) :
    Calls Tryd.prog 16 #[.agg #[.int .i64 L, .slice ca nc cc, .slice a n c]] w fun e w' => ∃ R g, RowOk n D R ∧ e = .returned (.slice (some ⟨g, 0, none⟩) n n) ∧ w.heap.size ≤ g ∧ g < w'.heap.size ∧ Holds (Value.int .i64) w' g 0 (R.map (fun j : Nat => (j : Int))).toArray ∧ Kept w w' := by
  haveI : Inhabited (Fin n) := ⟨⟨0, by omega⟩⟩
  have HD : Hid (AtD w a n D) := hD
  obtain ⟨i3, hi3, hi30, hi31, hi38⟩ := info3
  have HB : Hid (Box w.heap.size (w.alloc (.cells #[.int .i64 L, .slice ca nc cc, .slice a n c] 27)) 27 w.heap.size [.int .i64 L, .slice ca nc cc, .slice a n c]) := box_new w.heap.size w 27 [.int .i64 L, .slice ca nc cc, .slice a n c] (Nat.le_refl _) (by simp)
  have hbs : w.heap.size ≤ (w.alloc (.cells #[.int .i64 L, .slice ca nc cc, .slice a n c] 27)).heap.size := by simp
  clear hD
  go_enter Tryd.func16, Tryd.ntmps16
  go_wp2_with (refine wpList_make_full _ rfl _ _ 28 rfl w.heap.size 3 i3 _ 1 Tryd.underlying28 hi3 hi30 hi31 _ _ _ _ n rfl rfl rfl rfl (by rw [hi38]; omega) (by unfold maxLen; omega) hbs ?_; intro w1 ow1 gr1)
  have hsz : (w.alloc (.cells #[.int .i64 L, .slice ca nc cc, .slice a n c] 27)).heap.size = w.heap.size + 1 := by simp
  rw [hsz] at ow1
  have HI0 : Hid (IRow 3 w.heap.size w1 (.slice (some ⟨w.heap.size + 1, 0, none⟩) n n) (upTo n 0)) := by show IRow _ _ _ _ _; rw [upTo_zero]; exact irow_made ow1
  have KA : Kept (w.alloc (.cells #[.int .i64 L, .slice ca nc cc, .slice a n c] 27)) w1 := (Turns.grown (S := fun _ => False) gr1 (fun k e => by cases e)).kept (Kept.refl _) (fun i hi => hi.elim)
  have HB1 : Hid (Box w.heap.size w1 27 w.heap.size [.int .i64 L, .slice ca nc cc, .slice a n c]) := HB.out.kept KA
  have K1 : Kept w w1 := ((Kept.refl w).alloc _).trans KA
  clear ow1 gr1 HB KA hsz hbs
  go_loopg [11] n (fun gk i wr => ∃ j : Nat, i = .int .i64 j ∧ j + gk = n ∧ Hid (IRow 3 w.heap.size wr (.slice (some ⟨w.heap.size + 1, 0, none⟩) n n) (upTo n j)) ∧ Hid (Box w.heap.size wr 27 w.heap.size [.int .i64 L, .slice ca nc cc, .slice a n c]) ∧ Kept w wr)
  case atStart => exact ⟨0, rfl, by omega, HI0, HB1, K1⟩
  case round =>
    obtain ⟨j, rfl, hj, HI, HBX, K⟩ := hrel
    by_cases hjn : j < n
    · have b1 : (j : Int) < (n : Int) := by omega
      have b2 : (0 : Int) ≤ (j : Int) := by omega
      have c1 := irow_cell HI.out (upTo_len n j) j 0 (upTo_get n j hjn)
      have f1 := irow_frozen HI.out (upTo_len n j) j
      obtain ⟨g3', rfl⟩ : ∃ g, gk = g + 1 := ⟨gk - 1, by omega⟩
      go_wp2_with fail
      go_roundg g3'
      case rel =>
        have t := turn_set wr (w.heap.size + 1) j (.int .i64 (j : Int))
        have h5 := irow_set HI.out (upTo_len n j) j (j : Int)
        rw [upTo_set] at h5
        exact ⟨j + 1, by go_num, by omega, h5, HBX.out.turns t (by omega), t.kept K (fun i hi => by omega)⟩
      case measure => omega
    · have b1 : ¬ (j : Int) < (n : Int) := by omega
      obtain rfl : j = n := by omega
      have hH := holdsF HI.out
      have hgl := (World.ownsRow.lt HI.out (w.heap.size + 1) rfl).2
      have hcmp : CmpReads Tryd.prog 25 #[.pointer (some ⟨w.heap.size, 0, none⟩)] encF (cfD j D) (w.heap.size + 1) 0 j wr := by
        intro m os dk hs x y
        have t := turns_sort encF wr m (w.heap.size + 1) 0 dk os
        have cb : (sortWorld encF wr (w.heap.size + 1) 0 m dk os).cell? ⟨w.heap.size, 2, none⟩ = some (.slice a j c) := t.cell (HBX.out.cell 2 (by simp)) HBX.out.lt.2 (by simp)
        have aD : AtD (sortWorld encF wr (w.heap.size + 1) 0 m dk os) a j D := by
          intro q hq
          obtain ⟨b, f, e, hc⟩ := HD.out q hq
          have hb := cell_lt hc
          simp only at hb
          exact ⟨b, f, e, t.cell (K.cell hc) (by have := K.size; simp only; omega) (by simp only; omega)⟩
        exact less_any a j c D w.heap.size x.1 y.1 x.2 y.2 _ cb aD
      have hst := sortst_any j D h20 j (w.heap.size + 1) w.heap.size wr hH hcmp
      obtain ⟨R, hR, e1, e2⟩ := sort_ok j D
      generalize Sort.insertionSort (ltOf (cfD j D)) (idArr j) 0 j = d' at *
      have h6 := holds_putRow encF wr (w.heap.size + 1) 0 (idArr j) d' hH (by rw [e2, idArr_size])
      have h7 := holdsI h6 e1
      have t8 : Kept w (putRow encF wr (w.heap.size + 1) 0 d') := (turns_put encF wr 0 (w.heap.size + 1) 0 d').kept K (fun i hi => by omega)
      have s8 : w.heap.size + 1 < (putRow encF wr (w.heap.size + 1) 0 d').heap.size := by rw [size_putRow]; exact hgl
      have HF : Hid (∀ q, ∃ R g, RowOk j D R ∧ Ending.returned (Value.slice (some ⟨w.heap.size + 1, 0, none⟩) j j) = .returned (.slice (some ⟨g, 0, none⟩) j j) ∧ w.heap.size ≤ g ∧ g < ((putRow encF wr (w.heap.size + 1) 0 d').drewN q).heap.size ∧ Holds (Value.int .i64) ((putRow encF wr (w.heap.size + 1) 0 d').drewN q) g 0 (R.map (fun j : Nat => (j : Int))).toArray ∧ Kept w ((putRow encF wr (w.heap.size + 1) 0 d').drewN q)) := fun q => ⟨R, w.heap.size + 1, hR, rfl, by omega, s8, h7, t8.drewN q⟩
      clear hR e1 e2 h6 h7 t8 s8 hH hcmp HI HBX
      go_wp2_with (first | (go_at_call 24; refine hst.mono ?_; rintro e w5 ⟨rfl, q, rfl⟩) | fail)
      go_ret
      exact HF.out q
end Go.Proofs.YtembbhbbmkijcaaDoor
