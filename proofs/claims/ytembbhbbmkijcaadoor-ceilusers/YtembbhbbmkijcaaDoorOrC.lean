/- Prios, Higher, Lower. -/
import Derived.Test.YtembbhbbmkijcaaDoorOrB
namespace Go.Proofs.YtembbhbbmkijcaaDoor
open Go.RowKit Go.Sort

theorem row_get {n : Nat} {D : Nat → Int} {R : List Nat} (h : RowOk n D R) {k : Nat} (hk : k < n) : ∃ x, R[k]? = some x ∧ x < n := by
  have hl : k < R.length := by rw [h.len]; exact hk
  exact ⟨R[k], List.getElem?_eq_getElem hl, h.lt (List.getElem_mem hl)⟩
theorem holds_cell {w : World} {g : Nat} {R : List Nat} (h : Holds (Value.int .i64) w g 0 (R.map (fun j : Nat => (j : Int))).toArray) {k x : Nat} (hx : R[k]? = some x) : w.cell? ⟨g, k, none⟩ = some (.int .i64 (x : Int)) := by
  obtain ⟨hk, e⟩ := List.getElem?_eq_some_iff.1 hx
  have h1 := (h k (by simpa using hk)).1
  rw [Nat.zero_add] at h1
  rw [h1]
  simp [hk, e]
theorem AtI.turns {S : Nat → Prop} {w w' : World} {a : Option Addr} {l : List Int} (h : AtI w a l) (t : Turns S w w') (hs : ∀ b f, a = some ⟨b, f, none⟩ → ¬ S b) : AtI w' a l := by
  intro j x hj
  obtain ⟨b, f, e, hc⟩ := h j x hj
  exact ⟨b, f, e, t.cell hc (cell_lt hc) (hs b f e)⟩
theorem irow_at {B : Nat} {w : World} {g n c : Nat} {l : List Int} (h : IRow 3 B w (.slice (some ⟨g, 0, none⟩) n c) l) (hn : l.length = n) : AtI w (some ⟨g, 0, none⟩) l := by
  intro j x hj
  exact ⟨g, 0, rfl, by rw [Nat.zero_add]; exact irow_cell h hn j x hj⟩

set_option maxHeartbeats 4000000 in
theorem prios_any (L : Int) (ca : Option Addr) (nc cc : Nat) (a : Option Addr) (n c : Nat) (D : Nat → Int) (w : World) (hD : AtD w a n D) (h1 : 1 ≤ n) (h20 : n < 20) :
    Calls Tryd.prog 11 #[.agg #[.int .i64 L, .slice ca nc cc, .slice a n c]] w fun e w' => ∃ g, e = .returned (.slice (some ⟨g, 0, none⟩) n n) ∧ w.heap.size ≤ g ∧ AtI w' (some ⟨g, 0, none⟩) (prD n D) ∧ Kept w w' := by
  have HD : Hid (AtD w a n D) := hD
  obtain ⟨i3, hi3, hi30, hi31, hi38⟩ := info3
  have HB : Hid (Box w.heap.size (w.alloc (.cells #[.int .i64 L, .slice ca nc cc, .slice a n c] 27)) 27 w.heap.size [.int .i64 L, .slice ca nc cc, .slice a n c]) := box_new w.heap.size w 27 [.int .i64 L, .slice ca nc cc, .slice a n c] (Nat.le_refl _) (by simp)
  have hbs : w.heap.size ≤ (w.alloc (.cells #[.int .i64 L, .slice ca nc cc, .slice a n c] 27)).heap.size := by simp
  clear hD
  go_enter Tryd.func11, Tryd.ntmps11
  go_wp2_with (refine wpList_make_full _ rfl _ _ 28 rfl w.heap.size 3 i3 _ 1 Tryd.underlying28 hi3 hi30 hi31 _ _ _ _ n rfl rfl rfl rfl (by rw [hi38]; omega) (by unfold maxLen; omega) hbs ?_; intro w1 ow1 gr1; have hsz : (w.alloc (.cells #[.int .i64 L, .slice ca nc cc, .slice a n c] 27)).heap.size = w.heap.size + 1 := (by simp); rw [hsz] at ow1; have HI0 : Hid (IRow 3 w.heap.size w1 (.slice (some ⟨w.heap.size + 1, 0, none⟩) n n) (prT n D 0)) := (by show IRow _ _ _ _ _; rw [prT_zero]; exact irow_made ow1); have KA : Kept (w.alloc (.cells #[.int .i64 L, .slice ca nc cc, .slice a n c] 27)) w1 := (Turns.grown (S := fun _ => False) gr1 (fun k e => by cases e)).kept (Kept.refl _) (fun i hi => hi.elim); have HB1 : Hid (Box w.heap.size w1 27 w.heap.size [.int .i64 L, .slice ca nc cc, .slice a n c]) := HB.out.kept KA; have K1 : Kept w w1 := ((Kept.refl w).alloc _).trans KA; have s0 := HB1.out.cell 0 (by simp); have s1 := HB1.out.cell 1 (by simp); have s2 := HB1.out.cell 2 (by simp); simp only [List.getElem?_cons_zero, List.getElem?_cons_succ] at s0 s1 s2; clear ow1 gr1 HB KA hsz hbs)
  refine (row_any L ca nc cc a n c D w1 (HD.out.kept K1) h1 h20).mono ?_
  rintro e w2 ⟨R, g, hR, rfl, hg1, hg2, hH, K2⟩
  have HI1 : Hid (IRow 3 w.heap.size w2 (.slice (some ⟨w.heap.size + 1, 0, none⟩) n n) (prT n D 0)) := HI0.out.kept K2
  have hw1s := (World.ownsRow.lt HI0.out (w.heap.size + 1) rfl).2
  have HR : Hid (RowOk n D R) := hR
  have HC : Hid (∀ (k x : Nat), R[k]? = some x → w2.cell? ⟨g, k, none⟩ = some (.int .i64 (x : Int))) := fun k x hx => holds_cell hH hx
  have K12 := K1.trans K2
  clear hR hH HI0 HB1 s0 s1 s2
  go_wp2_with fail
  go_loopg [13] n (fun gk i wr => ∃ j : Nat, i = .int .i64 j ∧ j + gk = n ∧ Hid (IRow 3 w.heap.size wr (.slice (some ⟨w.heap.size + 1, 0, none⟩) n n) (prT n D j)) ∧ Hid (Turns (fun k => k = w.heap.size + 1) w2 wr) ∧ Kept w wr)
  case atStart => exact ⟨0, rfl, by omega, HI1, Turns.refl _ _, K12⟩
  case round =>
    obtain ⟨j, rfl, hj, HI, HT, K⟩ := hrel
    by_cases hjn : j < n
    · have b1 : (j : Int) < (n : Int) := by omega
      have b2 : (0 : Int) ≤ (j : Int) := by omega
      obtain ⟨x, hx, hxn⟩ := row_get HR.out hjn
      have b3 : (x : Int) < (n : Int) := by omega
      have b4 : (0 : Int) ≤ (x : Int) := by omega
      have c0 : wr.cell? ⟨g, j, none⟩ = some (.int .i64 (x : Int)) := HT.out.cell (HC.out j x hx) hg2 (by simp only; omega)
      obtain ⟨y, hy⟩ : ∃ y, (prT n D j)[x]? = some y := ⟨_, List.getElem?_eq_getElem (by rw [prT_len]; exact hxn)⟩
      have c1 := irow_cell HI.out (prT_len n D j) x y hy
      have f1 := irow_frozen HI.out (prT_len n D j) x
      have HS : Hid ((prT n D j).set x ((n : Int) - (j : Int)) = prT n D (j + 1)) := prT_set HR.out hx
      obtain ⟨g3', rfl⟩ : ∃ g, gk = g + 1 := ⟨gk - 1, by omega⟩
      clear hx hy
      go_wp2_with fail
      go_roundg g3'
      case rel =>
        have t := turn_set wr (w.heap.size + 1) x (.int .i64 ((n : Int) - (j : Int)))
        have h5 := irow_set HI.out (prT_len n D j) x ((n : Int) - (j : Int))
        rw [HS.out] at h5
        exact ⟨j + 1, by go_num, by omega, h5, HT.out.trans t, t.kept K (fun i hi => by omega)⟩
      case measure => omega
    · have b1 : ¬ (j : Int) < (n : Int) := by omega
      obtain rfl : j = n := by omega
      have HF : Hid (AtI wr (some ⟨w.heap.size + 1, 0, none⟩) (prD j D)) := by
        have h5 := irow_at HI.out (prT_len j D j)
        rw [prT_end HR.out] at h5
        exact h5
      go_wp2_with fail
      go_ret
      exact ⟨w.heap.size + 1, rfl, by omega, HF.out, K⟩
theorem row_first {n : Nat} {D : Nat → Int} {R : List Nat} (h : RowOk n D R) {x : Nat} (hx : x < n) : (R.map (fun j : Nat => (j : Int)))[rank n D x]? = some (x : Int) ∧ ∀ q, q < rank n D x → (R.map (fun j : Nat => (j : Int)))[q]? ≠ some (x : Int) := by
  refine ⟨by rw [List.getElem?_map, h.at hx]; rfl, fun q hq e => ?_⟩
  rw [List.getElem?_map] at e
  cases hy : R[q]? with
  | none => rw [hy] at e; cases e
  | some y =>
    rw [hy] at e
    have h2 : (y : Int) = (x : Int) := Option.some.inj e
    have : y = x := by omega
    subst this
    have := h.rank hy
    omega
theorem holds_take {w : World} {g : Nat} {l : List Int} (h : Holds (Value.int .i64) w g 0 l.toArray) (k : Nat) : Holds (Value.int .i64) w g 0 (l.take k).toArray := by
  intro j hj
  have hj2 : j < k ∧ j < l.length := by simp at hj; omega
  obtain ⟨h1, h2⟩ := h j (by simpa using hj2.2)
  refine ⟨?_, h2⟩
  rw [h1]
  simp [hj2.1, hj2.2]
theorem holds_drop {w : World} {g : Nat} {l : List Int} (h : Holds (Value.int .i64) w g 0 l.toArray) (k : Nat) : Holds (Value.int .i64) w g k (l.drop k).toArray := by
  intro j hj
  have hj2 : k + j < l.length := by simp at hj; omega
  have h0 := h (k + j) (by simpa using hj2)
  rw [Nat.zero_add] at h0
  refine ⟨?_, h0.2⟩
  rw [h0.1]
  simp [hj2, show j < l.length - k by omega]
end Go.Proofs.YtembbhbbmkijcaaDoor
