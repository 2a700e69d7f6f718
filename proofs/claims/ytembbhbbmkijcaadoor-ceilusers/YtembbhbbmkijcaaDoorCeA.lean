/- Ceilings: the tasks by falling priorities, who has a lock, rows of numbers. -/
import Derived.Test.YtembbhbbmkijcaaDoorOrC
import Derived.Test.YtembbhbbmkijcaaDoorSetD
import Derived.Test.YtembbhbbmkijcaaDoorInts
namespace Go.Proofs.YtembbhbbmkijcaaDoor
open Go.RowKit Go.Sort

theorem isnan2_any (x : Int) (w : World) : Calls Tryd.prog 29 #[.int .i64 x] w fun e w' => e = .returned (.bool false) ∧ w' = w := by
  have hx : (x != x) = false := by simp
  go_enter Tryd.func29, Tryd.ntmps29
  go_wp2_with fail
  go_ret
  exact ⟨rfl, rfl⟩
theorem compare2_any (x y : Int) (w : World) : Calls Tryd.prog 19 #[.int .i64 x, .int .i64 y] w fun e w' => e = .returned (.int .i64 (if x < y then -1 else if y < x then 1 else 0)) ∧ w' = w := by
  by_cases h1 : x < y
  · rw [if_pos h1]
    go_enter Tryd.func19, Tryd.ntmps19
    go_wp2_with (first | (go_at_call 29; refine (isnan2_any _ _).mono ?_; rintro e w1 ⟨rfl, hw⟩; subst hw))
    go_ret
    exact ⟨rfl, rfl⟩
  · rw [if_neg h1]
    by_cases h2 : y < x
    · rw [if_pos h2]
      have h3 : x > y := h2
      go_enter Tryd.func19, Tryd.ntmps19
      go_wp2_with (first | (go_at_call 29; refine (isnan2_any _ _).mono ?_; rintro e w1 ⟨rfl, hw⟩; subst hw))
      go_ret
      exact ⟨rfl, rfl⟩
    · rw [if_neg h2]
      have h3 : ¬ x > y := h2
      go_enter Tryd.func19, Tryd.ntmps19
      go_wp2_with (first | (go_at_call 29; refine (isnan2_any _ _).mono ?_; rintro e w1 ⟨rfl, hw⟩; subst hw))
      go_ret
      exact ⟨rfl, rfl⟩
theorem cmp_flip (x y : Int) : (if y < x then (-1 : Int) else if x < y then 1 else 0) = (if -x < -y then -1 else if -y < -x then 1 else 0) := by
  by_cases h1 : y < x
  · rw [if_pos h1, if_pos (c := -x < -y) (by omega)]
  · rw [if_neg h1, if_neg (c := -x < -y) (by omega)]
    by_cases h2 : x < y
    · rw [if_pos h2, if_pos (c := -y < -x) (by omega)]
    · rw [if_neg h2, if_neg (c := -y < -x) (by omega)]
/-- What a slice of numbers shows, place by place. -/
def AtN (w : World) (a : Option Addr) (n : Nat) (E : Nat → Int) : Prop := ∀ j, j < n → ∃ b f, a = some ⟨b, f, none⟩ ∧ w.cell? ⟨b, f + j, none⟩ = some (.int .i64 (E j))
theorem AtN.kept {w w' : World} {a : Option Addr} {n : Nat} {E : Nat → Int} (h : AtN w a n E) (t : Kept w w') : AtN w' a n E := by
  intro j hj
  obtain ⟨b, f, e, hc⟩ := h j hj
  exact ⟨b, f, e, t.cell hc⟩
set_option maxHeartbeats 2000000 in
theorem less2_any (a : Option Addr) (n c : Nat) (E : Nat → Int) (bx : Nat) (x y : Nat) (hx : x < n) (hy : y < n) (w : World) (hb : w.cell? ⟨bx, 0, none⟩ = some (.slice a n c)) (hD : AtN w a n E) :
    Calls Tryd.prog 18 #[.int .i64 x, .int .i64 y, .pointer (some ⟨bx, 0, none⟩)] w fun e w' => e = .returned (.int .i64 (if -E x < -E y then -1 else if -E y < -E x then 1 else 0)) ∧ ∃ q, w' = w.drewN q := by
  rw [← cmp_flip]
  obtain ⟨b, f, rfl, c1⟩ := hD x hx
  obtain ⟨b', f', e', c2⟩ := hD y hy
  cases e'
  have r1 : (x : Int) < (n : Int) := by omega
  have r2 : (y : Int) < (n : Int) := by omega
  have r3 : (0 : Int) ≤ (x : Int) := by omega
  have r4 : (0 : Int) ≤ (y : Int) := by omega
  have hc : ∀ k, Calls Tryd.prog 19 #[.int .i64 (E y), .int .i64 (E x)] (w.drewN k) fun e w' => e = .returned (.int .i64 (if E y < E x then -1 else if E x < E y then 1 else 0)) ∧ ∃ q, w' = (w.drewN k).drewN q := fun k => (compare2_any _ _ _).mono (by rintro e w' ⟨rfl, rfl⟩; exact ⟨rfl, 0, rfl⟩)
  generalize (if E y < E x then (-1 : Int) else if E x < E y then 1 else 0) = z at hc ⊢
  clear hD
  go_enter Tryd.func18, Tryd.ntmps18
  go_wp2_with fail
  go_quiet (first | (go_at_call 19; refine Calls.quiet_of (hc _)))
  go_wp2_with fail
  go_ret
  exact ⟨rfl, nq, rfl⟩
theorem sortf_any (n : Nat) (E : Nat → Int) [Inhabited (Fin n)] (h12 : n ≤ 12) (cap blk bx : Nat) (w : World) (hH : Holds encF w blk 0 (idArr n)) (hcmp : CmpReads Tryd.prog 18 #[.pointer (some ⟨bx, 0, none⟩)] encF (cfD n (fun j => -E j)) blk 0 n w) :
    Calls Tryd.prog 17 #[.slice (some ⟨blk, 0, none⟩) n cap, .func (.func 18) #[] #[.pointer (some ⟨bx, 0, none⟩)]] w fun e w' => e = .returned (.tuple #[]) ∧ ∃ q, w' = (putRow encF w blk 0 (Sort.insertionSort (ltOf (cfD n (fun j => -E j))) (idArr n) 0 n)).drewN q := by
  have h := Tryd.slices_SortFunc_small encF (fun _ => rfl) (cfD n (fun j => -E j)) 18 #[.pointer (some ⟨bx, 0, none⟩)] blk 0 cap (idArr n) w (enters_of Tryd.func18 (by kernel_rfl) rfl) (by rw [idArr_size]; exact hcmp) hH (by rw [idArr_size]; exact h12) (fun m W hm => (Tryd.bits_Len (m : Int) W (by omega) (by omega)).mono (by rintro e w' ⟨rfl, hw⟩; exact ⟨⟨_, rfl⟩, hw⟩))
  rw [idArr_size] at h
  exact h
theorem irow_one {B g n : Nat} {w : World} (h : w.ownsRow B 3 1 (.slice (some ⟨g, 0, none⟩) n n) n (madeCells (Value.int IntKind.i64 0).cells (n * 1)).toList) : IRow 3 B w (.slice (some ⟨g, 0, none⟩) n n) (List.replicate n 0) := irow_made h

set_option maxHeartbeats 4000000 in
theorem falling_any (a : Option Addr) (n c : Nat) (E : Nat → Int) (w : World) (hD : AtN w a n E) (h1 : 1 ≤ n) (h12 : n ≤ 12) :
    Calls Tryd.prog 12 #[.slice a n c] w fun e w' => ∃ R g, RowOk n (fun j => -E j) R ∧ e = .returned (.slice (some ⟨g, 0, none⟩) n n) ∧ w.heap.size ≤ g ∧ g < w'.heap.size ∧ Holds (Value.int .i64) w' g 0 (R.map (fun j : Nat => (j : Int))).toArray ∧ Kept w w' := by
  haveI : Inhabited (Fin n) := ⟨⟨0, by omega⟩⟩
  have HD : Hid (AtN w a n E) := hD
  obtain ⟨i3, hi3, hi30, hi31, hi38⟩ := info3
  have HB : Hid (Box w.heap.size (w.alloc (.cells #[.slice a n c] 28)) 28 w.heap.size [.slice a n c]) := box_new w.heap.size w 28 [.slice a n c] (Nat.le_refl _) (by simp)
  have hbs : w.heap.size ≤ (w.alloc (.cells #[.slice a n c] 28)).heap.size := by simp
  clear hD
  go_enter Tryd.func12, Tryd.ntmps12
  go_wp2_with (refine wpList_make_full _ rfl _ _ 28 rfl w.heap.size 3 i3 _ 1 Tryd.underlying28 hi3 hi30 hi31 _ _ _ _ n rfl rfl rfl rfl (by rw [hi38]; omega) (by unfold maxLen; omega) hbs ?_; intro w1 ow1 gr1)
  have hsz : (w.alloc (.cells #[.slice a n c] 28)).heap.size = w.heap.size + 1 := by simp
  rw [hsz] at ow1
  have HI0 : Hid (IRow 3 w.heap.size w1 (.slice (some ⟨w.heap.size + 1, 0, none⟩) n n) (upTo n 0)) := by show IRow _ _ _ _ _; rw [upTo_zero]; exact irow_made ow1
  have KA : Kept (w.alloc (.cells #[.slice a n c] 28)) w1 := (Turns.grown (S := fun _ => False) gr1 (fun k e => by cases e)).kept (Kept.refl _) (fun i hi => hi.elim)
  have HB1 : Hid (Box w.heap.size w1 28 w.heap.size [.slice a n c]) := HB.out.kept KA
  have K1 : Kept w w1 := ((Kept.refl w).alloc _).trans KA
  clear ow1 gr1 HB KA hsz hbs
  go_loopg [10] n (fun gk i wr => ∃ j : Nat, i = .int .i64 j ∧ j + gk = n ∧ Hid (IRow 3 w.heap.size wr (.slice (some ⟨w.heap.size + 1, 0, none⟩) n n) (upTo n j)) ∧ Hid (Box w.heap.size wr 28 w.heap.size [.slice a n c]) ∧ Kept w wr)
  case atStart => exact ⟨0, rfl, by omega, HI0, HB1, K1⟩
  case round =>
    obtain ⟨j, rfl, hj, HI, HBX, K⟩ := hrel
    by_cases hjn : j < n
    · have b1 : (j : Int) < (n : Int) := by omega
      have b2 : (0 : Int) ≤ (j : Int) := by omega
      have c1 := irow_cell HI.out (upTo_len n j) j 0 (upTo_get n j hjn)
      have f1 := irow_frozen HI.out (upTo_len n j) j
      obtain ⟨g3', rfl⟩ : ∃ g, gk = g + 1 := ⟨gk - 1, by omega⟩
      go_wp2_with fail
      go_roundg g3'
      case rel =>
        have t := turn_set wr (w.heap.size + 1) j (.int .i64 (j : Int))
        have h5 := irow_set HI.out (upTo_len n j) j (j : Int)
        rw [upTo_set] at h5
        exact ⟨j + 1, by go_num, by omega, h5, HBX.out.turns t (by omega), t.kept K (fun i hi => by omega)⟩
      case measure => omega
    · have b1 : ¬ (j : Int) < (n : Int) := by omega
      obtain rfl : j = n := by omega
      have hH := holdsF HI.out
      have hgl := (World.ownsRow.lt HI.out (w.heap.size + 1) rfl).2
      have hcmp : CmpReads Tryd.prog 18 #[.pointer (some ⟨w.heap.size, 0, none⟩)] encF (cfD j (fun j => -E j)) (w.heap.size + 1) 0 j wr := by
        intro m os dk hs x y
        have t := turns_sort encF wr m (w.heap.size + 1) 0 dk os
        have cb : (sortWorld encF wr (w.heap.size + 1) 0 m dk os).cell? ⟨w.heap.size, 0, none⟩ = some (.slice a j c) := t.cell (HBX.out.cell 0 (by simp)) HBX.out.lt.2 (by simp)
        have aD : AtN (sortWorld encF wr (w.heap.size + 1) 0 m dk os) a j E := by
          intro q hq
          obtain ⟨b, f, e, hc⟩ := HD.out q hq
          have hb := cell_lt hc
          simp only at hb
          exact ⟨b, f, e, t.cell (K.cell hc) (by have := K.size; simp only; omega) (by simp only; omega)⟩
        exact less2_any a j c E w.heap.size x.1 y.1 x.2 y.2 _ cb aD
      have hst := sortf_any j E h12 j (w.heap.size + 1) w.heap.size wr hH hcmp
      obtain ⟨R, hR, e1, e2⟩ := sort_ok j (fun j => -E j)
      generalize Sort.insertionSort (ltOf (cfD j (fun j => -E j))) (idArr j) 0 j = d' at *
      have h6 := holds_putRow encF wr (w.heap.size + 1) 0 (idArr j) d' hH (by rw [e2, idArr_size])
      have h7 := holdsI h6 e1
      have t8 : Kept w (putRow encF wr (w.heap.size + 1) 0 d') := (turns_put encF wr 0 (w.heap.size + 1) 0 d').kept K (fun i hi => by omega)
      have s8 : w.heap.size + 1 < (putRow encF wr (w.heap.size + 1) 0 d').heap.size := by rw [size_putRow]; exact hgl
      have HF : Hid (∀ q, ∃ R g, RowOk j (fun j => -E j) R ∧ Ending.returned (Value.slice (some ⟨w.heap.size + 1, 0, none⟩) j j) = .returned (.slice (some ⟨g, 0, none⟩) j j) ∧ w.heap.size ≤ g ∧ g < ((putRow encF wr (w.heap.size + 1) 0 d').drewN q).heap.size ∧ Holds (Value.int .i64) ((putRow encF wr (w.heap.size + 1) 0 d').drewN q) g 0 (R.map (fun j : Nat => (j : Int))).toArray ∧ Kept w ((putRow encF wr (w.heap.size + 1) 0 d').drewN q)) := fun q => ⟨R, w.heap.size + 1, hR, rfl, by omega, s8, h7, t8.drewN q⟩
      clear hR e1 e2 h6 h7 t8 s8 hH hcmp HI HBX
      go_wp2_with (first | (go_at_call 17; refine hst.mono ?_; rintro e w5 ⟨rfl, q, rfl⟩) | fail)
      go_ret
      exact HF.out q
set_option maxHeartbeats 2000000 in
theorem has_any (nm : List UInt8) (pd dl bu lock : Int) (pr : List OpD) (pa : Option Addr) (pc : Nat) (w : World) (hA : AtP w pa pr) (hl : pr.length ≤ 100000) :
    Calls Tryd.prog 13 #[.agg #[.string (B nm), .int .i64 pd, .int .i64 dl, .int .i64 bu, .slice pa pr.length pc], .int .i64 lock] w fun e w' => e = .returned (.bool ((locksD pr).contains lock)) ∧ Kept w w' := by
  have K0 := (Kept.refl w).alloc (.cells #[.string (B nm), .int .i64 pd, .int .i64 dl, .int .i64 bu, .slice pa pr.length pc] 35)
  have HB : Hid (Box w.heap.size (w.alloc (.cells #[.string (B nm), .int .i64 pd, .int .i64 dl, .int .i64 bu, .slice pa pr.length pc] 35)) 35 w.heap.size [.string (B nm), .int .i64 pd, .int .i64 dl, .int .i64 bu, .slice pa pr.length pc]) := box_new w.heap.size w 35 [.string (B nm), .int .i64 pd, .int .i64 dl, .int .i64 bu, .slice pa pr.length pc] (Nat.le_refl _) (by simp)
  have HCO : Hid (∀ w', Kept w w' → Calls Tryd.prog 21 #[.slice pa pr.length pc] w' fun e w'' => ∃ va vc, e = .returned (.slice va (locksD pr).length vc) ∧ AtI w'' va (locksD pr) ∧ Kept w' w'') := fun w' t => locks_any pa pc pr w' (hA.kept t) hl
  obtain ⟨l, hz⟩ : ∃ z, locksD pr = z := ⟨_, rfl⟩
  have hll : l.length ≤ 100000 := by rw [← hz]; unfold locksD; exact Nat.le_trans (compact_len _) (by rw [List.length_mergeSort]; exact Nat.le_trans (lockNs_len pr) hl)
  rw [hz] at HCO ⊢
  have g4 : (w.alloc (.cells #[.string (B nm), .int .i64 pd, .int .i64 dl, .int .i64 bu, .slice pa pr.length pc] 35)).cell? ⟨w.heap.size, 4, none⟩ = some (.slice pa pr.length pc) := HB.out.cell 4 (by simp)
  have HCT : Hid (∀ va vc W, AtI W va l → Calls Tryd.prog 20 #[.slice va l.length vc, .int .i64 lock] W fun e w'' => e = .returned (.bool (l.contains lock)) ∧ w'' = W) := by
    intro va vc W hv
    cases l with
    | nil => exact Tryd.slices_Contains_int_empty va vc lock W
    | cons x r =>
      obtain ⟨b, f, rfl, _⟩ := hv 0 x rfl
      have h := Tryd.slices_Contains_int b f (x :: r).length vc (x :: r) lock W (Nat.le_refl _) (by omega) (fun j hj => by
        obtain ⟨b', f', e, hc⟩ := hv j (x :: r)[j] (List.getElem?_eq_getElem hj)
        cases e
        rw [hc]
        simp [List.getD, List.getElem?_eq_getElem hj])
      rw [List.take_length] at h
      exact h
  obtain ⟨z, hzz⟩ : ∃ z, l.contains lock = z := ⟨_, rfl⟩
  rw [hzz] at HCT ⊢
  clear hz hzz hA hll
  go_enter Tryd.func13, Tryd.ntmps13
  go_wp2_with (first | (go_at_call 21; refine (HCO.out _ K0).mono ?_; rintro e w3 ⟨va, vc, rfl, A3, K3⟩) | (go_at_call 20; refine (HCT.out _ _ _ A3).mono ?_; rintro e w4 ⟨rfl, rfl⟩) | fail)
  go_ret
  exact ⟨rfl, K0.trans K3⟩
set_option maxHeartbeats 2000000 in
theorem lrow_any (a b : Option Addr) (c d : Nat) (l m : List Int) (w : World) (hA : AtI w a l) (hB : AtI w b m) (hl : l.length ≤ 100000) (_hml : m.length ≤ 100000) :
    Calls Tryd.prog 10 #[.slice a l.length c, .slice b m.length d] w fun e w' => e = .returned (.bool (decide (l = m))) ∧ Kept w w' := by
  have HA : Hid (AtI w a l) := hA
  have HB : Hid (AtI w b m) := hB
  clear hA hB
  by_cases hlm : l.length = m.length
  · have hne : ((l.length : Int) != (m.length : Int)) = false := by simp [hlm]
    go_enter Tryd.func10, Tryd.ntmps10
    go_wp2_with fail
    go_loopg [5] l.length (fun gk i wr => ∃ j : Nat, i = .int .i64 j ∧ j + gk = l.length ∧ Hid (l.take j = m.take j) ∧ Kept w wr)
    case atStart => exact ⟨0, rfl, by omega, (by show _ = _; simp), Kept.refl w⟩
    case round =>
      obtain ⟨j, rfl, hj, HE, K⟩ := hrel
      by_cases hjp : j < l.length
      · obtain ⟨x, hx⟩ : ∃ x, l[j]? = some x := ⟨_, List.getElem?_eq_getElem hjp⟩
        obtain ⟨y, hy⟩ : ∃ y, m[j]? = some y := ⟨_, List.getElem?_eq_getElem (by omega)⟩
        obtain ⟨b1, f1, rfl, c1⟩ := (HA.out.kept K) j x hx
        obtain ⟨b2, f2, rfl, c2⟩ := (HB.out.kept K) j y hy
        have r1 : (j : Int) < (l.length : Int) := by omega
        have r2 : (j : Int) < (m.length : Int) := by omega
        have r3 : (0 : Int) ≤ (j : Int) := by omega
        obtain ⟨g3', rfl⟩ : ∃ g, gk = g + 1 := ⟨gk - 1, by omega⟩
        by_cases hxy : x = y
        · subst hxy
          have hq : (x != x) = false := by simp
          have HE2 : Hid (l.take (j + 1) = m.take (j + 1)) := by show _ = _; rw [List.take_add_one, List.take_add_one, hx, hy, HE.out]
          clear hx hy HE
          go_wp2_with fail
          go_region_held3 (fun w' => w'.cell? ⟨b1, f1 + j, none⟩ = some (.int .i64 x) ∧ w'.cell? ⟨b2, f2 + j, none⟩ = some (.int .i64 x)) (go_keep) (fail)
          go_wp2_with fail
          go_roundg g3'
          case rel => exact ⟨j + 1, by go_num, by omega, HE2, K.drew⟩
          case measure => omega
        · have hq : (x != y) = true := by simp [hxy]
          have HD : Hid (decide (l = m) = false) := by
            refine decide_eq_false (fun e => hxy ?_)
            rw [e, hy] at hx
            exact (Option.some.inj hx).symm
          clear hx hy HE hxy
          go_wp2_with fail
          go_region_held3 (fun w' => w'.cell? ⟨b1, f1 + j, none⟩ = some (.int .i64 x) ∧ w'.cell? ⟨b2, f2 + j, none⟩ = some (.int .i64 y)) (go_keep) (fail)
          go_wp2_with fail
          go_ret
          rw [HD.out]
          exact ⟨rfl, K.drew⟩
      · have r1 : ¬ (j : Int) < (l.length : Int) := by omega
        have HD : Hid (decide (l = m) = true) := by
          refine decide_eq_true ?_
          have h := HE.out
          rw [List.take_of_length_le (by omega), List.take_of_length_le (by omega)] at h
          exact h
        go_wp2_with fail
        go_ret
        rw [HD.out]
        exact ⟨rfl, K⟩
  · have hne : ((l.length : Int) != (m.length : Int)) = true := by simp; omega
    have HD : Hid (decide (l = m) = false) := decide_eq_false (fun e => hlm (by rw [e]))
    go_enter Tryd.func10, Tryd.ntmps10
    go_wp2_with fail
    go_ret
    rw [HD.out]
    exact ⟨rfl, Kept.refl w⟩
/-- What a lock's ceiling is: the greatest priority of those who have it. -/
def ceilV (E : Nat → Int) (h : Nat → Bool) : Nat → Int
  | 0 => 0
  | n + 1 => if h n = true then max (ceilV E h n) (E n) else ceilV E h n
theorem ceilV_nn (E : Nat → Int) (h : Nat → Bool) : ∀ n, 0 ≤ ceilV E h n
  | 0 => Int.le_refl _
  | n + 1 => by
    have := ceilV_nn E h n
    rw [ceilV]
    split <;> omega
theorem ceilV_ge {E : Nat → Int} {h : Nat → Bool} : ∀ {n i : Nat}, i < n → h i = true → E i ≤ ceilV E h n
  | 0, i, hi, _ => by omega
  | n + 1, i, hi, hh => by
    rw [ceilV]
    by_cases e : i = n
    · subst e
      rw [if_pos hh]
      omega
    · have := ceilV_ge (E := E) (h := h) (n := n) (i := i) (by omega) hh
      split <;> omega
theorem ceilV_le {E : Nat → Int} {h : Nat → Bool} {v : Int} (h0 : 0 ≤ v) : ∀ {n : Nat}, (∀ i, i < n → h i = true → E i ≤ v) → ceilV E h n ≤ v
  | 0, _ => h0
  | n + 1, hv => by
    have := ceilV_le h0 (n := n) (fun i hi hh => hv i (by omega) hh)
    rw [ceilV]
    split
    · rename_i hh
      have := hv n (by omega) hh
      omega
    · exact this
theorem ceilV_none {E : Nat → Int} {h : Nat → Bool} {n : Nat} (hn : ∀ i, i < n → h i = false) : ceilV E h n = 0 := by
  have h1 := ceilV_le (E := E) (h := h) (v := 0) (Int.le_refl _) (n := n) (fun i hi hh => by rw [hn i hi] at hh; cases hh)
  have h2 := ceilV_nn E h n
  omega
/-- The first one in the falling row that has it. -/
theorem ceilV_first {n : Nat} {E : Nat → Int} {h : Nat → Bool} {R : List Nat} {q i : Nat} (hR : RowOk n (fun j => -E j) R) (hq : R[q]? = some i) (hi : h i = true) (h0 : 0 ≤ E i) (hb : ∀ p x, p < q → R[p]? = some x → h x = false) : ceilV E h n = E i := by
  have hin : i < n := hR.lt (List.mem_of_getElem? hq)
  have h2 := ceilV_ge (E := E) (h := h) hin hi
  have h1 := ceilV_le (E := E) (h := h) (v := E i) h0 (n := n) (fun x hx hh => by
    obtain ⟨p, hp, e⟩ := List.getElem_of_mem (hR.all hx)
    have ep : R[p]? = some x := by rw [List.getElem?_eq_getElem hp, e]
    rcases Nat.lt_trichotomy p q with hpq | hpq | hpq
    · rw [hb p x hpq ep] at hh
      cases hh
    · subst hpq
      rw [ep] at hq
      cases hq
      exact Int.le_refl _
    · have := hR.before hpq hq ep
      simp only [bef] at this
      omega)
  omega
end Go.Proofs.YtembbhbbmkijcaaDoor
