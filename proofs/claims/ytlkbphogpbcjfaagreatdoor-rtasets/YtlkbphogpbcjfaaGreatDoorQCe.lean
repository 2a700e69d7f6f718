/- Ceilings: the tasks by falling priorities, who has a lock, rows of numbers. Of and Sections, walked. -/
import Derived.Test.YtlkbphogpbcjfaaGreatDoorQSt
import Derived.Test.YtlkbphogpbcjfaaGreatDoorQTw
import Derived.Test.YtlkbphogpbcjfaaGreatDoorQLs
import Derived.Test.YtlkbphogpbcjfaaGreatDoorQCk
import Derived.Test.YtlkbphogpbcjfaaGreatDoorQbase
namespace Go.Proofs.YtlkbphogpbcjfaaGreatDoor
open Go.RowKit Go.Sort

theorem isnan2_any (x : Int) (w : World) : Calls Tryz.prog 72 #[.int .i64 x] w fun e w' => e = .returned (.bool false) ∧ w' = w := by
  have hx : (x != x) = false := by simp
  go_enter Tryz.func72, Tryz.ntmps72
  go_wp2_with fail
  go_ret
  exact ⟨rfl, rfl⟩
theorem compare2_any (x y : Int) (w : World) : Calls Tryz.prog 62 #[.int .i64 x, .int .i64 y] w fun e w' => e = .returned (.int .i64 (if x < y then -1 else if y < x then 1 else 0)) ∧ w' = w := by
  by_cases h1 : x < y
  · rw [if_pos h1]
    go_enter Tryz.func62, Tryz.ntmps62
    go_wp2_with (first | (go_at_call 72; refine (isnan2_any _ _).mono ?_; rintro e w1 ⟨rfl, hw⟩; subst hw))
    go_ret
    exact ⟨rfl, rfl⟩
  · rw [if_neg h1]
    by_cases h2 : y < x
    · rw [if_pos h2]
      have h3 : x > y := h2
      go_enter Tryz.func62, Tryz.ntmps62
      go_wp2_with (first | (go_at_call 72; refine (isnan2_any _ _).mono ?_; rintro e w1 ⟨rfl, hw⟩; subst hw))
      go_ret
      exact ⟨rfl, rfl⟩
    · rw [if_neg h2]
      have h3 : ¬ x > y := h2
      go_enter Tryz.func62, Tryz.ntmps62
      go_wp2_with (first | (go_at_call 72; refine (isnan2_any _ _).mono ?_; rintro e w1 ⟨rfl, hw⟩; subst hw))
      go_ret
      exact ⟨rfl, rfl⟩
theorem cmp_flip (x y : Int) : (if y < x then (-1 : Int) else if x < y then 1 else 0) = (if -x < -y then -1 else if -y < -x then 1 else 0) := by
  by_cases h1 : y < x
  · rw [if_pos h1, if_pos (c := -x < -y) (by omega)]
  · rw [if_neg h1, if_neg (c := -x < -y) (by omega)]
    by_cases h2 : x < y
    · rw [if_pos h2, if_pos (c := -y < -x) (by omega)]
    · rw [if_neg h2, if_neg (c := -y < -x) (by omega)]
/-- What a slice of numbers shows, place by place. -/
def AtN (w : World) (a : Option Addr) (n : Nat) (E : Nat → Int) : Prop := ∀ j, j < n → ∃ b f, a = some ⟨b, f, none⟩ ∧ w.cell? ⟨b, f + j, none⟩ = some (.int .i64 (E j))
theorem AtN.kept {w w' : World} {a : Option Addr} {n : Nat} {E : Nat → Int} (h : AtN w a n E) (t : Kept w w') : AtN w' a n E := by
  intro j hj
  obtain ⟨b, f, e, hc⟩ := h j hj
  exact ⟨b, f, e, t.cell hc⟩
set_option maxHeartbeats 2000000 in
theorem less2_any (a : Option Addr) (n c : Nat) (E : Nat → Int) (bx : Nat) (x y : Nat) (hx : x < n) (hy : y < n) (w : World) (hb : w.cell? ⟨bx, 0, none⟩ = some (.slice a n c)) (hD : AtN w a n E) :
    Calls Tryz.prog 61 #[.int .i64 x, .int .i64 y, .pointer (some ⟨bx, 0, none⟩)] w fun e w' => e = .returned (.int .i64 (if -E x < -E y then -1 else if -E y < -E x then 1 else 0)) ∧ ∃ q, w' = w.drewN q := by
  rw [← cmp_flip]
  obtain ⟨b, f, rfl, c1⟩ := hD x hx
  obtain ⟨b', f', e', c2⟩ := hD y hy
  cases e'
  have r1 : (x : Int) < (n : Int) := by omega
  have r2 : (y : Int) < (n : Int) := by omega
  have r3 : (0 : Int) ≤ (x : Int) := by omega
  have r4 : (0 : Int) ≤ (y : Int) := by omega
  have hc : ∀ k, Calls Tryz.prog 62 #[.int .i64 (E y), .int .i64 (E x)] (w.drewN k) fun e w' => e = .returned (.int .i64 (if E y < E x then -1 else if E x < E y then 1 else 0)) ∧ ∃ q, w' = (w.drewN k).drewN q := fun k => (compare2_any _ _ _).mono (by rintro e w' ⟨rfl, rfl⟩; exact ⟨rfl, 0, rfl⟩)
  generalize (if E y < E x then (-1 : Int) else if E x < E y then 1 else 0) = z at hc ⊢
  clear hD
  go_enter Tryz.func61, Tryz.ntmps61
  go_wp2_with fail
  go_quiet (first | (go_at_call 62; refine Calls.quiet_of (hc _)))
  go_wp2_with fail
  go_ret
  exact ⟨rfl, nq, rfl⟩
theorem sortf_any (n : Nat) (E : Nat → Int) [Inhabited (Fin n)] (h12 : n ≤ 12) (cap blk bx : Nat) (w : World) (hH : Holds encF w blk 0 (idArr n)) (hcmp : CmpReads Tryz.prog 61 #[.pointer (some ⟨bx, 0, none⟩)] encF (cfD n (fun j => -E j)) blk 0 n w) :
    Calls Tryz.prog 60 #[.slice (some ⟨blk, 0, none⟩) n cap, .func (.func 61) #[] #[.pointer (some ⟨bx, 0, none⟩)]] w fun e w' => e = .returned (.tuple #[]) ∧ ∃ q, w' = (putRow encF w blk 0 (Sort.insertionSort (ltOf (cfD n (fun j => -E j))) (idArr n) 0 n)).drewN q := by
  have h := Tryz.slices_SortFunc_small encF (fun _ => rfl) (cfD n (fun j => -E j)) 61 #[.pointer (some ⟨bx, 0, none⟩)] blk 0 cap (idArr n) w (enters_of Tryz.func61 (by kernel_rfl) rfl) (by rw [idArr_size]; exact hcmp) hH (by rw [idArr_size]; exact h12) (fun m W hm => (Tryz.bits_Len (m : Int) W (by omega) (by omega)).mono (by rintro e w' ⟨rfl, hw⟩; exact ⟨⟨_, rfl⟩, hw⟩))
  rw [idArr_size] at h
  exact h
theorem irow_one {B g n : Nat} {w : World} (h : w.ownsRow B 3 1 (.slice (some ⟨g, 0, none⟩) n n) n (madeCells (Value.int IntKind.i64 0).cells (n * 1)).toList) : IRow 3 B w (.slice (some ⟨g, 0, none⟩) n n) (List.replicate n 0) := irow_made h

set_option maxHeartbeats 4000000 in
theorem falling_any (a : Option Addr) (n c : Nat) (E : Nat → Int) (w : World) (hD : AtN w a n E) (h1 : 1 ≤ n) (h12 : n ≤ 12) :
    Calls Tryz.prog 48 #[.slice a n c] w fun e w' => ∃ R g, RowOk n (fun j => -E j) R ∧ e = .returned (.slice (some ⟨g, 0, none⟩) n n) ∧ w.heap.size ≤ g ∧ g < w'.heap.size ∧ Holds (Value.int .i64) w' g 0 (R.map (fun j : Nat => (j : Int))).toArray ∧ Kept w w' := by
  haveI : Inhabited (Fin n) := ⟨⟨0, by omega⟩⟩
  have HD : Hid (AtN w a n E) := hD
  obtain ⟨i3, hi3, hi30, hi31, hi38⟩ := info3
  have HB : Hid (Box w.heap.size (w.alloc (.cells #[.slice a n c] 66)) 66 w.heap.size [.slice a n c]) := box_new w.heap.size w 66 [.slice a n c] (Nat.le_refl _) (by simp)
  have hbs : w.heap.size ≤ (w.alloc (.cells #[.slice a n c] 66)).heap.size := by simp
  clear hD
  go_enter Tryz.func48, Tryz.ntmps48
  go_wp2_with (refine wpList_make_full _ rfl _ _ 66 rfl w.heap.size 3 i3 _ 1 Tryz.underlying66 hi3 hi30 hi31 _ _ _ _ n rfl rfl rfl rfl (by rw [hi38]; omega) (by unfold maxLen; omega) hbs ?_; intro w1 ow1 gr1)
  have hsz : (w.alloc (.cells #[.slice a n c] 66)).heap.size = w.heap.size + 1 := by simp
  rw [hsz] at ow1
  have HI0 : Hid (IRow 3 w.heap.size w1 (.slice (some ⟨w.heap.size + 1, 0, none⟩) n n) (upTo n 0)) := by show IRow _ _ _ _ _; rw [upTo_zero]; exact irow_made ow1
  have KA : Kept (w.alloc (.cells #[.slice a n c] 66)) w1 := (Turns.grown (S := fun _ => False) gr1 (fun k e => by cases e)).kept (Kept.refl _) (fun i hi => hi.elim)
  have HB1 : Hid (Box w.heap.size w1 66 w.heap.size [.slice a n c]) := HB.out.kept KA
  have K1 : Kept w w1 := ((Kept.refl w).alloc _).trans KA
  clear ow1 gr1 HB KA hsz hbs
  go_loopg [10] n (fun gk i wr => ∃ j : Nat, i = .int .i64 j ∧ j + gk = n ∧ Hid (IRow 3 w.heap.size wr (.slice (some ⟨w.heap.size + 1, 0, none⟩) n n) (upTo n j)) ∧ Hid (Box w.heap.size wr 66 w.heap.size [.slice a n c]) ∧ Kept w wr)
  case atStart => exact ⟨0, rfl, by omega, HI0, HB1, K1⟩
  case round =>
    obtain ⟨j, rfl, hj, HI, HBX, K⟩ := hrel
    by_cases hjn : j < n
    · have b1 : (j : Int) < (n : Int) := by omega
      have b2 : (0 : Int) ≤ (j : Int) := by omega
      have c1 := irow_cell HI.out (upTo_len n j) j 0 (upTo_get n j hjn)
      have f1 := irow_frozen HI.out (upTo_len n j) j
      obtain ⟨g3', rfl⟩ : ∃ g, gk = g + 1 := ⟨gk - 1, by omega⟩
      go_wp2_with fail
      go_roundg g3'
      case rel =>
        have t := turn_set wr (w.heap.size + 1) j (.int .i64 (j : Int))
        have h5 := irow_set HI.out (upTo_len n j) j (j : Int)
        rw [upTo_set] at h5
        exact ⟨j + 1, by go_num, by omega, h5, HBX.out.turns t (by omega), t.kept K (fun i hi => by omega)⟩
      case measure => omega
    · have b1 : ¬ (j : Int) < (n : Int) := by omega
      obtain rfl : j = n := by omega
      have hH := holdsF HI.out
      have hgl := (World.ownsRow.lt HI.out (w.heap.size + 1) rfl).2
      have hcmp : CmpReads Tryz.prog 61 #[.pointer (some ⟨w.heap.size, 0, none⟩)] encF (cfD j (fun j => -E j)) (w.heap.size + 1) 0 j wr := by
        intro m os dk hs x y
        have t := turns_sort encF wr m (w.heap.size + 1) 0 dk os
        have cb : (sortWorld encF wr (w.heap.size + 1) 0 m dk os).cell? ⟨w.heap.size, 0, none⟩ = some (.slice a j c) := t.cell (HBX.out.cell 0 (by simp)) HBX.out.lt.2 (by simp)
        have aD : AtN (sortWorld encF wr (w.heap.size + 1) 0 m dk os) a j E := by
          intro q hq
          obtain ⟨b, f, e, hc⟩ := HD.out q hq
          have hb := cell_lt hc
          simp only at hb
          exact ⟨b, f, e, t.cell (K.cell hc) (by have := K.size; simp only; omega) (by simp only; omega)⟩
        exact less2_any a j c E w.heap.size x.1 y.1 x.2 y.2 _ cb aD
      have hst := sortf_any j E h12 j (w.heap.size + 1) w.heap.size wr hH hcmp
      obtain ⟨R, hR, e1, e2⟩ := sort_ok j (fun j => -E j)
      generalize Sort.insertionSort (ltOf (cfD j (fun j => -E j))) (idArr j) 0 j = d' at *
      have h6 := holds_putRow encF wr (w.heap.size + 1) 0 (idArr j) d' hH (by rw [e2, idArr_size])
      have h7 := holdsI h6 e1
      have t8 : Kept w (putRow encF wr (w.heap.size + 1) 0 d') := (turns_put encF wr 0 (w.heap.size + 1) 0 d').kept K (fun i hi => by omega)
      have s8 : w.heap.size + 1 < (putRow encF wr (w.heap.size + 1) 0 d').heap.size := by rw [size_putRow]; exact hgl
      have HF : Hid (∀ q, ∃ R g, RowOk j (fun j => -E j) R ∧ Ending.returned (Value.slice (some ⟨w.heap.size + 1, 0, none⟩) j j) = .returned (.slice (some ⟨g, 0, none⟩) j j) ∧ w.heap.size ≤ g ∧ g < ((putRow encF wr (w.heap.size + 1) 0 d').drewN q).heap.size ∧ Holds (Value.int .i64) ((putRow encF wr (w.heap.size + 1) 0 d').drewN q) g 0 (R.map (fun j : Nat => (j : Int))).toArray ∧ Kept w ((putRow encF wr (w.heap.size + 1) 0 d').drewN q)) := fun q => ⟨R, w.heap.size + 1, hR, rfl, by omega, s8, h7, t8.drewN q⟩
      clear hR e1 e2 h6 h7 t8 s8 hH hcmp HI HBX
      go_wp2_with (first | (go_at_call 60; refine hst.mono ?_; rintro e w5 ⟨rfl, q, rfl⟩) | fail)
      go_ret
      exact HF.out q
set_option maxHeartbeats 2000000 in
theorem has_any (nm : List UInt8) (pd dl bu lock : Int) (pr : List OpD) (pa : Option Addr) (pc : Nat) (w : World) (hA : AtP w pa pr) (hl : pr.length ≤ 100000) :
    Calls Tryz.prog 49 #[.agg #[.string (B nm), .int .i64 pd, .int .i64 dl, .int .i64 bu, .slice pa pr.length pc], .int .i64 lock] w fun e w' => e = .returned (.bool ((locksD pr).contains lock)) ∧ Kept w w' := by
  have K0 := (Kept.refl w).alloc (.cells #[.string (B nm), .int .i64 pd, .int .i64 dl, .int .i64 bu, .slice pa pr.length pc] 58)
  have HB : Hid (Box w.heap.size (w.alloc (.cells #[.string (B nm), .int .i64 pd, .int .i64 dl, .int .i64 bu, .slice pa pr.length pc] 58)) 58 w.heap.size [.string (B nm), .int .i64 pd, .int .i64 dl, .int .i64 bu, .slice pa pr.length pc]) := box_new w.heap.size w 58 [.string (B nm), .int .i64 pd, .int .i64 dl, .int .i64 bu, .slice pa pr.length pc] (Nat.le_refl _) (by simp)
  have HCO : Hid (∀ w', Kept w w' → Calls Tryz.prog 64 #[.slice pa pr.length pc] w' fun e w'' => ∃ va vc, e = .returned (.slice va (locksD pr).length vc) ∧ AtI w'' va (locksD pr) ∧ Kept w' w'') := fun w' t => locks_any pa pc pr w' (hA.kept t) hl
  obtain ⟨l, hz⟩ : ∃ z, locksD pr = z := ⟨_, rfl⟩
  have hll : l.length ≤ 100000 := by rw [← hz]; unfold locksD; exact Nat.le_trans (compact_len _) (by rw [List.length_mergeSort]; exact Nat.le_trans (lockNs_len pr) hl)
  rw [hz] at HCO ⊢
  have g4 : (w.alloc (.cells #[.string (B nm), .int .i64 pd, .int .i64 dl, .int .i64 bu, .slice pa pr.length pc] 58)).cell? ⟨w.heap.size, 4, none⟩ = some (.slice pa pr.length pc) := HB.out.cell 4 (by simp)
  have HCT : Hid (∀ va vc W, AtI W va l → Calls Tryz.prog 63 #[.slice va l.length vc, .int .i64 lock] W fun e w'' => e = .returned (.bool (l.contains lock)) ∧ w'' = W) := by
    intro va vc W hv
    cases l with
    | nil => exact Tryz.slices_Contains_int_empty va vc lock W
    | cons x r =>
      obtain ⟨b, f, rfl, _⟩ := hv 0 x rfl
      have h := Tryz.slices_Contains_int b f (x :: r).length vc (x :: r) lock W (Nat.le_refl _) (by omega) (fun j hj => by
        obtain ⟨b', f', e, hc⟩ := hv j (x :: r)[j] (List.getElem?_eq_getElem hj)
        cases e
        rw [hc]
        simp [List.getD, List.getElem?_eq_getElem hj])
      rw [List.take_length] at h
      exact h
  obtain ⟨z, hzz⟩ : ∃ z, l.contains lock = z := ⟨_, rfl⟩
  rw [hzz] at HCT ⊢
  clear hz hzz hA hll
  go_enter Tryz.func49, Tryz.ntmps49
  go_wp2_with (first | (go_at_call 64; refine (HCO.out _ K0).mono ?_; rintro e w3 ⟨va, vc, rfl, A3, K3⟩) | (go_at_call 63; refine (HCT.out _ _ _ A3).mono ?_; rintro e w4 ⟨rfl, rfl⟩) | fail)
  go_ret
  exact ⟨rfl, K0.trans K3⟩
/-- What a lock's ceiling is: the greatest priority of those who have it. -/
def ceilV (E : Nat → Int) (h : Nat → Bool) : Nat → Int
  | 0 => 0
  | n + 1 => if h n = true then max (ceilV E h n) (E n) else ceilV E h n
theorem ceilV_nn (E : Nat → Int) (h : Nat → Bool) : ∀ n, 0 ≤ ceilV E h n
  | 0 => Int.le_refl _
  | n + 1 => by
    have := ceilV_nn E h n
    rw [ceilV]
    split <;> omega
theorem ceilV_ge {E : Nat → Int} {h : Nat → Bool} : ∀ {n i : Nat}, i < n → h i = true → E i ≤ ceilV E h n
  | 0, i, hi, _ => by omega
  | n + 1, i, hi, hh => by
    rw [ceilV]
    by_cases e : i = n
    · subst e
      rw [if_pos hh]
      omega
    · have := ceilV_ge (E := E) (h := h) (n := n) (i := i) (by omega) hh
      split <;> omega
theorem ceilV_le {E : Nat → Int} {h : Nat → Bool} {v : Int} (h0 : 0 ≤ v) : ∀ {n : Nat}, (∀ i, i < n → h i = true → E i ≤ v) → ceilV E h n ≤ v
  | 0, _ => h0
  | n + 1, hv => by
    have := ceilV_le h0 (n := n) (fun i hi hh => hv i (by omega) hh)
    rw [ceilV]
    split
    · rename_i hh
      have := hv n (by omega) hh
      omega
    · exact this
theorem ceilV_none {E : Nat → Int} {h : Nat → Bool} {n : Nat} (hn : ∀ i, i < n → h i = false) : ceilV E h n = 0 := by
  have h1 := ceilV_le (E := E) (h := h) (v := 0) (Int.le_refl _) (n := n) (fun i hi hh => by rw [hn i hi] at hh; cases hh)
  have h2 := ceilV_nn E h n
  omega
/-- The first one in the falling row that has it. -/
theorem ceilV_first {n : Nat} {E : Nat → Int} {h : Nat → Bool} {R : List Nat} {q i : Nat} (hR : RowOk n (fun j => -E j) R) (hq : R[q]? = some i) (hi : h i = true) (h0 : 0 ≤ E i) (hb : ∀ p x, p < q → R[p]? = some x → h x = false) : ceilV E h n = E i := by
  have hin : i < n := hR.lt (List.mem_of_getElem? hq)
  have h2 := ceilV_ge (E := E) (h := h) hin hi
  have h1 := ceilV_le (E := E) (h := h) (v := E i) h0 (n := n) (fun x hx hh => by
    obtain ⟨p, hp, e⟩ := List.getElem_of_mem (hR.all hx)
    have ep : R[p]? = some x := by rw [List.getElem?_eq_getElem hp, e]
    rcases Nat.lt_trichotomy p q with hpq | hpq | hpq
    · rw [hb p x hpq ep] at hh
      cases hh
    · subst hpq
      rw [ep] at hq
      cases hq
      exact Int.le_refl _
    · have := hR.before hpq hq ep
      simp only [bef] at this
      omega)
  omega
end Go.Proofs.YtlkbphogpbcjfaaGreatDoor
namespace Go.Proofs.YtlkbphogpbcjfaaGreatDoor
open Go.RowKit Go.Sort

def dlT (ts : List TaskD) (j : Nat) : Int := match ts[j]? with
  | some t => t.deadline
  | none => 0
theorem att_d {w : World} {a : Option Addr} {ts : List TaskD} (h : AtT w a ts) : AtD w a ts.length (dlT ts) := by
  intro j hj
  obtain ⟨b, f, e, ht⟩ := h j ts[j] (List.getElem?_eq_getElem hj)
  refine ⟨b, f, e, ?_⟩
  unfold dlT
  rw [List.getElem?_eq_getElem hj]
  exact ht.dl
/-- Task i has lock k. -/
def hasK (ts : List TaskD) (k i : Nat) : Bool := match ts[i]? with
  | some t => (locksD t.prog).contains (k : Int)
  | none => false
def prE (ts : List TaskD) (i : Nat) : Int := (ts.length : Int) - (rank ts.length (dlT ts) i : Int)
theorem rank_le (n : Nat) (D : Nat → Int) (i : Nat) : rank n D i ≤ n := by
  unfold rank
  have := List.countP_le_length (p := fun j => befB D j i) (l := List.range n)
  rw [List.length_range] at this
  exact this
theorem prE_nn (ts : List TaskD) (i : Nat) : 0 ≤ prE ts i := by
  have := rank_le ts.length (dlT ts) i
  unfold prE
  omega
theorem atn_of {w : World} {a : Option Addr} {ts : List TaskD} (h : AtI w a (prD ts.length (dlT ts))) : AtN w a ts.length (prE ts) := by
  intro j hj
  exact h j (prE ts j) (by simp [prD, prE, hj])
/-- The ceilings; those up to lock k. -/
def ceilT (ts : List TaskD) (L k : Nat) : List Int := (List.range L).map (fun q => if q < k then ceilV (prE ts) (hasK ts q) ts.length else 0)
def ceilD (ts : List TaskD) (L : Nat) : List Int := (List.range L).map (fun q => ceilV (prE ts) (hasK ts q) ts.length)
theorem ceilT_len (ts : List TaskD) (L k : Nat) : (ceilT ts L k).length = L := by simp [ceilT]
theorem ceilD_len (ts : List TaskD) (L : Nat) : (ceilD ts L).length = L := by simp [ceilD]
theorem ceilT_zero (ts : List TaskD) (L : Nat) : ceilT ts L 0 = List.replicate L 0 := by
  apply List.ext_getElem
  · simp [ceilT]
  · intro i h1 h2
    simp [ceilT]
theorem ceilT_end (ts : List TaskD) (L : Nat) : ceilT ts L L = ceilD ts L := by
  unfold ceilT ceilD
  exact List.map_congr_left (fun i hi => if_pos (List.mem_range.1 hi))
theorem ceilT_get {ts : List TaskD} {L k : Nat} (h : k < L) : (ceilT ts L k)[k]? = some 0 := by simp [ceilT, h]
theorem ceilT_set (ts : List TaskD) (L k : Nat) (v : Int) (hv : ceilV (prE ts) (hasK ts k) ts.length = v) : (ceilT ts L k).set k v = ceilT ts L (k + 1) := by
  apply List.ext_getElem
  · simp [ceilT]
  · intro i h1 h2
    rw [List.getElem_set]
    simp only [ceilT, List.getElem_map, List.getElem_range]
    by_cases e : k = i
    · subst e
      rw [if_pos rfl, if_pos (by omega), hv]
    · rw [if_neg e]
      by_cases hlt : i < k
      · rw [if_pos hlt, if_pos (by omega)]
      · rw [if_neg hlt, if_neg (by omega)]
theorem ceilT_same (ts : List TaskD) (L k : Nat) (hv : ceilV (prE ts) (hasK ts k) ts.length = 0) : ceilT ts L k = ceilT ts L (k + 1) := by
  unfold ceilT
  refine List.map_congr_left (fun i _ => ?_)
  by_cases e : i = k
  · subst e
    rw [if_neg (by omega), if_pos (by omega), hv]
  · by_cases hlt : i < k
    · rw [if_pos hlt, if_pos (by omega)]
    · rw [if_neg hlt, if_neg (by omega)]
theorem row_none {n : Nat} {D : Nat → Int} {R : List Nat} (h : RowOk n D R) {f : Nat → Bool} (hb : ∀ p x, p < n → R[p]? = some x → f x = false) : ∀ i, i < n → f i = false := by
  intro i hi
  obtain ⟨p, hp, e⟩ := List.getElem_of_mem (h.all hi)
  exact hb p i (by rw [h.len] at hp; exact hp) (by rw [List.getElem?_eq_getElem hp, e])

set_option maxHeartbeats 8000000 in
set_option maxRecDepth 10000 in
theorem of_any (L : Nat) (ca ta : Option Addr) (nc cc tc : Nat) (ts : List TaskD) (w : World) (hA : AtT w ta ts) (hok : TsOk ts) (h1 : 1 ≤ ts.length) (h12 : ts.length ≤ 12) (hL : L ≤ 8) :
    Calls Tryz.prog 33 #[.agg #[.int .i64 L, .slice ca nc cc, .slice ta ts.length tc]] w fun e w' => ∃ g, e = .returned (.slice (some ⟨g, 0, none⟩) L L) ∧ w.heap.size ≤ g ∧ AtI w' (some ⟨g, 0, none⟩) (ceilD ts L) ∧ Kept w w' := by
  have HA : Hid (AtT w ta ts) := hA
  have HOK : Hid (TsOk ts) := hok
  obtain ⟨i3, hi3, hi30, hi31, hi38⟩ := info3
  have HB : Hid (Box w.heap.size (w.alloc (.cells #[.int .i64 L, .slice ca nc cc, .slice ta ts.length tc] 36)) 36 w.heap.size [.int .i64 L, .slice ca nc cc, .slice ta ts.length tc]) := box_new w.heap.size w 36 [.int .i64 L, .slice ca nc cc, .slice ta ts.length tc] (Nat.le_refl _) (by simp)
  have hbs : w.heap.size ≤ (w.alloc (.cells #[.int .i64 L, .slice ca nc cc, .slice ta ts.length tc] 36)).heap.size := by simp
  have r1 : ¬ ((L : Int) < 0) := by omega
  have r2 : ¬ ((L : Int) > 8) := by omega
  clear hA hok
  go_enter Tryz.func33, Tryz.ntmps33
  go_wp2_with fail
  go_step3
  go_wp2_with (refine wpList_make_full _ rfl _ _ 66 rfl w.heap.size 3 i3 _ 1 Tryz.underlying66 hi3 hi30 hi31 _ _ _ _ L rfl rfl rfl rfl (by rw [hi38]; omega) (by unfold maxLen; omega) hbs ?_; intro w1 ow1 gr1; have hsz : (w.alloc (.cells #[.int .i64 L, .slice ca nc cc, .slice ta ts.length tc] 36)).heap.size = w.heap.size + 1 := (by simp); rw [hsz] at ow1; have HI0 : Hid (IRow 3 w.heap.size w1 (.slice (some ⟨w.heap.size + 1, 0, none⟩) L L) (ceilT ts L 0)) := (by show IRow _ _ _ _ _; rw [ceilT_zero]; exact irow_made ow1); have KA : Kept (w.alloc (.cells #[.int .i64 L, .slice ca nc cc, .slice ta ts.length tc] 36)) w1 := (Turns.grown (S := fun _ => False) gr1 (fun k e => by cases e)).kept (Kept.refl _) (fun i hi => hi.elim); have HB1 : Hid (Box w.heap.size w1 36 w.heap.size [.int .i64 L, .slice ca nc cc, .slice ta ts.length tc]) := HB.out.kept KA; have K1 : Kept w w1 := ((Kept.refl w).alloc _).trans KA; have s0 := HB1.out.cell 0 (by simp); have s1 := HB1.out.cell 1 (by simp); have s2 := HB1.out.cell 2 (by simp); simp only [List.getElem?_cons_zero, List.getElem?_cons_succ] at s0 s1 s2; clear ow1 gr1 HB KA hsz hbs)
  refine (prios_any L ca nc cc ta ts.length tc (dlT ts) w1 ((att_d HA.out).kept K1) h1 (by omega)).mono ?_
  rintro e w2 ⟨g2, rfl, hg2, A2, K2⟩
  have hw1s := (World.ownsRow.lt HI0.out (w.heap.size + 1) rfl).2
  have N2 : Hid (AtN w2 (some ⟨g2, 0, none⟩) ts.length (prE ts)) := atn_of A2
  have HI2 : Hid (IRow 3 w.heap.size w2 (.slice (some ⟨w.heap.size + 1, 0, none⟩) L L) (ceilT ts L 0)) := HI0.out.kept K2
  have HB2 : Hid (Box w.heap.size w2 36 w.heap.size [.int .i64 L, .slice ca nc cc, .slice ta ts.length tc]) := HB1.out.kept K2
  have K12 := K1.trans K2
  clear HI0 HB1 s0 s1 s2 A2 K1
  go_wp2_with fail
  refine (falling_any (some ⟨g2, 0, none⟩) ts.length ts.length (prE ts) w2 N2.out h1 h12).mono ?_
  rintro e w3 ⟨R, g3, hR, rfl, hg3, hg3b, hH, K3⟩
  have N3 : Hid (AtN w3 (some ⟨g2, 0, none⟩) ts.length (prE ts)) := N2.out.kept K3
  have HI3 : Hid (IRow 3 w.heap.size w3 (.slice (some ⟨w.heap.size + 1, 0, none⟩) L L) (ceilT ts L 0)) := HI2.out.kept K3
  have HB3 : Hid (Box w.heap.size w3 36 w.heap.size [.int .i64 L, .slice ca nc cc, .slice ta ts.length tc]) := HB2.out.kept K3
  have HR : Hid (RowOk ts.length (fun j => -prE ts j) R) := hR
  have HC : Hid (∀ (k x : Nat), R[k]? = some x → w3.cell? ⟨g3, k, none⟩ = some (.int .i64 (x : Int))) := fun k x hx => holds_cell hH hx
  have K13 := K12.trans K3
  have hz2 := K2.size
  have HNE : Hid (g3 ≠ w.heap.size + 1 ∧ g2 ≠ w.heap.size + 1 ∧ w.heap.size < w3.heap.size ∧ w.heap.size + 1 < w3.heap.size) := ⟨by omega, by omega, by have := K3.size; omega, by have := K3.size; omega⟩
  clear hR hH HI2 HB2 N2 hg2 hg3 hw1s hz2 K2 K3 K12
  go_wp2_with fail
  go_step3
  go_wp2_with fail
  go_loopg [26] L (fun gk i wr => ∃ (k : Nat) (W : World), W = wr ∧ i = .int .i64 k ∧ k + gk = L ∧ Hid (IRow 3 w.heap.size W (.slice (some ⟨w.heap.size + 1, 0, none⟩) L L) (ceilT ts L k)) ∧ Hid (Turns (fun q => q = w.heap.size + 1) w3 W) ∧ Kept w W)
  case atStart => exact ⟨0, _, rfl, rfl, by omega, HI3, Turns.refl _ _, K13⟩
  case round =>
    obtain ⟨k, W, hW, rfl, hk, HI, HT, K⟩ := hrel
    subst hW
    by_cases hkL : k < L
    · have b1 : (k : Int) < (L : Int) := by omega
      have b2 : (0 : Int) ≤ (k : Int) := by omega
      obtain ⟨gm, rfl⟩ : ∃ g, gk = g + 1 := ⟨gk - 1, by omega⟩
      obtain ⟨wo, rfl⟩ : ∃ z, z = W := ⟨_, rfl⟩
      go_wp2_with fail
      go_loopg [31] ts.length (fun gk i wr2 => ∃ (q : Nat) (W2 : World), W2 = wr2 ∧ i = .int .i64 q ∧ q + gk = ts.length ∧ Hid (∀ p x, p < q → R[p]? = some x → hasK ts k x = false) ∧ Hid (IRow 3 w.heap.size W2 (.slice (some ⟨w.heap.size + 1, 0, none⟩) L L) (ceilT ts L k)) ∧ Hid (Turns (fun q => q = w.heap.size + 1) w3 W2) ∧ Kept w W2)
      case atStart => exact ⟨0, _, rfl, rfl, by omega, (fun p x hp => by omega), HI, HT, K⟩
      case round =>
        obtain ⟨q, W2, hW, rfl, hq, HF, HI2, HT2, KS⟩ := hrel
        subst hW
        by_cases hqn : q < ts.length
        · have b3 : (q : Int) < (ts.length : Int) := by omega
          have b4 : (0 : Int) ≤ (q : Int) := by omega
          obtain ⟨x, hx, hxn⟩ := row_get HR.out hqn
          have b5 : (x : Int) < (ts.length : Int) := by omega
          have b6 : (0 : Int) ≤ (x : Int) := by omega
          have c0 : W2.cell? ⟨g3, q, none⟩ = some (.int .i64 (x : Int)) := HT2.out.cell (HC.out q x hx) hg3b (by have := HNE.out; simp only; omega)
          have HBX := HB3.out.turns HT2.out (by omega)
          have u2 : W2.cell? ⟨w.heap.size, 2, none⟩ = some (.slice ta ts.length tc) := HBX.cell 2 (by simp)
          obtain ⟨b, f, nm, pd, dl, bu, pr, pa, pc, rfl, hpj, g0, g1, g2', g3', g4, hpc, hat, _, _⟩ := (HA.out.kept KS).get x hxn
          have hlp : pr.length ≤ 100000 := (HOK.out _ (List.mem_of_getElem? hpj)).2.1
          have hhk : hasK ts k x = (locksD pr).contains (k : Int) := by unfold hasK; rw [hpj]
          obtain ⟨z, hz⟩ : ∃ z, (locksD pr).contains (k : Int) = z := ⟨_, rfl⟩
          have hcall := has_any nm pd dl bu (k : Int) pr pa pc W2 hat hlp
          rw [hz] at hcall hhk
          have HHK : Hid (hasK ts k x = z) := hhk
          have HX : Hid (R[q]? = some x) := hx
          obtain ⟨gi, rfl⟩ : ∃ g, gk = g + 1 := ⟨gk - 1, by omega⟩
          clear hx hpj hat hhk hz hlp HBX
          cases z with
          | true =>
            have HV : Hid (ceilV (prE ts) (hasK ts k) ts.length = prE ts x) := ceilV_first HR.out HX.out HHK.out (prE_nn ts x) HF.out
            have HSET : Hid ((ceilT ts L k).set k (prE ts x) = ceilT ts L (k + 1)) := ceilT_set ts L k _ HV.out
            obtain ⟨e, he⟩ : ∃ e, prE ts x = e := ⟨_, rfl⟩
            rw [he] at HSET
            have HP : Hid (w3.cell? ⟨g2, x, none⟩ = some (.int .i64 e)) := by
              obtain ⟨b', f', e1, hc⟩ := N3.out x hxn
              cases e1
              rw [Nat.zero_add, he] at hc
              exact hc
            have HG2 : Hid (g2 < w3.heap.size) := cell_lt HP.out
            clear HV he
            go_wp2_with (first | (go_at_call 49; refine hcall.mono ?_; rintro e5 w5 ⟨rfl, K5⟩; have KS5 := KS.trans K5; have c1 := irow_cell (HI2.out.kept K5) (ceilT_len ts L k) k 0 (ceilT_get hkL); have f1 := irow_frozen (HI2.out.kept K5) (ceilT_len ts L k) k; have c5 : w5.cell? ⟨g2, x, none⟩ = some (.int .i64 e) := K5.cell (HT2.out.cell HP.out HG2.out (by have := HNE.out; simp only; omega))) | fail)
            go_roundg gm
            case rel =>
              have t := turn_set w5 (w.heap.size + 1) k (.int .i64 e)
              have h5 := irow_set (HI2.out.kept K5) (ceilT_len ts L k) k e
              rw [HSET.out] at h5
              exact ⟨k + 1, _, rfl, by go_num, by omega, h5, (HT2.out.next K5.turns (fun _ _ h => h.elim)).trans t, t.kept KS5 (fun i hi => by omega)⟩
            case measure => omega
          | false =>
            have HF2 : Hid (∀ p y, p < q + 1 → R[p]? = some y → hasK ts k y = false) := by
              intro p y hp hy
              by_cases e : p = q
              · subst e
                rw [HX.out] at hy
                cases hy
                exact HHK.out
              · exact HF.out p y (by omega) hy
            clear HF
            go_wp2_with (first | (go_at_call 49; refine hcall.mono ?_; rintro e5 w5 ⟨rfl, K5⟩; have KS5 := KS.trans K5) | fail)
            go_roundg gi
            case rel => exact ⟨q + 1, _, rfl, by go_num, by omega, HF2, HI2.out.kept K5, HT2.out.next K5.turns (fun _ _ h => h.elim), KS5⟩
            case measure => omega
        · have b3 : ¬ (q : Int) < (ts.length : Int) := by omega
          have HV : Hid (ceilT ts L k = ceilT ts L (k + 1)) := ceilT_same ts L k (ceilV_none (row_none HR.out (fun p x hp hx => HF.out p x (by omega) hx)))
          have HI5 : Hid (IRow 3 w.heap.size W2 (.slice (some ⟨w.heap.size + 1, 0, none⟩) L L) (ceilT ts L (k + 1))) := by have h := HI2.out; rw [HV.out] at h; exact h
          go_wp2_with fail
          go_roundg gm
          case rel => exact ⟨k + 1, _, rfl, by go_num, by omega, HI5, HT2, KS⟩
          case measure => omega
    · have b1 : ¬ (k : Int) < (L : Int) := by omega
      obtain rfl : k = L := by omega
      have HF : Hid (AtI W (some ⟨w.heap.size + 1, 0, none⟩) (ceilD ts k)) := by
        have h5 := irow_at HI.out (ceilT_len ts k k)
        rw [ceilT_end] at h5
        exact h5
      go_wp2_with fail
      go_ret
      exact ⟨w.heap.size + 1, rfl, by omega, HF.out, K⟩
/-- What a call tells of one task. -/
structure NeedB (f : FuncId) (args : Array Value) (w : World) (z : Int) : Prop where
  run : ∀ wx, Kept w wx → Calls Tryz.prog f args wx fun e w' => e = .returned (.int .i64 z) ∧ Kept wx w'
def secV (lock : Int) (F : Nat → List OpD) (ts : List TaskD) (i : Nat) : Int := match ts[i]? with
  | some t => min (secGo lock 0 0 (F i)) (min (costD t.prog) t.budget)
  | none => 0
def secT (lock : Int) (F : Nat → List OpD) (ts : List TaskD) (n j : Nat) : List Int := (List.range n).map (fun i => if i < j then secV lock F ts i else 0)
def secD (lock : Int) (F : Nat → List OpD) (ts : List TaskD) : List Int := (List.range ts.length).map (fun i => secV lock F ts i)
theorem secT_len (lock : Int) (F : Nat → List OpD) (ts : List TaskD) (n j : Nat) : (secT lock F ts n j).length = n := by simp [secT]
theorem secD_len (lock : Int) (F : Nat → List OpD) (ts : List TaskD) : (secD lock F ts).length = ts.length := by simp [secD]
theorem secT_zero (lock : Int) (F : Nat → List OpD) (ts : List TaskD) (n : Nat) : secT lock F ts n 0 = List.replicate n 0 := by
  apply List.ext_getElem
  · simp [secT]
  · intro i h1 h2
    simp [secT]
theorem secT_end (lock : Int) (F : Nat → List OpD) (ts : List TaskD) : secT lock F ts ts.length ts.length = secD lock F ts := by
  unfold secT secD
  exact List.map_congr_left (fun i hi => if_pos (List.mem_range.1 hi))
theorem secT_get {lock : Int} {F : Nat → List OpD} {ts : List TaskD} {n k : Nat} (h : k < n) : (secT lock F ts n k)[k]? = some 0 := by simp [secT, h]
theorem secT_set (lock : Int) (F : Nat → List OpD) (ts : List TaskD) (n k : Nat) (v : Int) (hv : secV lock F ts k = v) : (secT lock F ts n k).set k v = secT lock F ts n (k + 1) := by
  apply List.ext_getElem
  · simp [secT]
  · intro i h1 h2
    rw [List.getElem_set]
    simp only [secT, List.getElem_map, List.getElem_range]
    by_cases e : k = i
    · subst e
      rw [if_pos rfl, if_pos (by omega), hv]
    · rw [if_neg e]
      by_cases hlt : i < k
      · rw [if_pos hlt, if_pos (by omega)]
      · rw [if_neg hlt, if_neg (by omega)]
theorem irow_made2 {B g n : Nat} {w : World} (h : w.ownsRow B 2 1 (.slice (some ⟨g, 0, none⟩) n n) n (madeCells (Value.int IntKind.i64 0).cells (n * 1)).toList) : IRow 2 B w (.slice (some ⟨g, 0, none⟩) n n) (List.replicate n 0) := by
  unfold IRow
  rw [List.length_replicate, ← made_zero]
  exact h
theorem irow_at2 {e : TypeId} {B : Nat} {w : World} {g n c : Nat} {l : List Int} (h : IRow e B w (.slice (some ⟨g, 0, none⟩) n c) l) (hn : l.length = n) : AtI w (some ⟨g, 0, none⟩) l := by
  intro j x hj
  exact ⟨g, 0, rfl, by rw [Nat.zero_add]; exact irow_cell h hn j x hj⟩
set_option maxHeartbeats 4000000 in
theorem sections_none (L lock : Int) (ca ta : Option Addr) (nc cc n tc : Nat) (w : World) (h : lock < 0 ∨ L ≤ lock) :
    Calls Tryz.prog 34 #[.agg #[.int .i64 L, .slice ca nc cc, .slice ta n tc], .int .i64 lock] w fun e w' => e = .returned (.slice none 0 0) ∧ Kept w w' := by
  have K1 : Kept w (w.alloc (.cells #[.int .i64 L, .slice ca nc cc, .slice ta n tc] 36)) := (Kept.refl w).alloc _
  by_cases h0 : lock < 0
  · clear h
    go_enter Tryz.func34, Tryz.ntmps34
    go_wp2_with fail
    go_ret
    exact ⟨rfl, K1⟩
  · have h2 : lock ≥ L := by omega
    clear h
    go_enter Tryz.func34, Tryz.ntmps34
    go_wp2_with fail
    go_ret
    exact ⟨rfl, K1⟩
set_option maxHeartbeats 8000000 in
set_option maxRecDepth 10000 in
theorem sections_any (L lock : Int) (ca ta : Option Addr) (nc cc tc : Nat) (ts : List TaskD) (F : Nat → List OpD) (w : World) (hr : Rdy w) (hA : AtT w ta ts) (hn : ts.length ≤ 1000) (hpg : ∀ t ∈ ts, checkP t.prog = (0, 0)) (hbl : ∀ i t, ts[i]? = some t → Bal 3 0 0 t.prog (F i)) (hl0 : 0 ≤ lock) (hlL : lock < L) :
    Calls Tryz.prog 34 #[.agg #[.int .i64 L, .slice ca nc cc, .slice ta ts.length tc], .int .i64 lock] w fun e w' => ∃ g, e = .returned (.slice (some ⟨g, 0, none⟩) ts.length ts.length) ∧ w.heap.size ≤ g ∧ AtI w' (some ⟨g, 0, none⟩) (secD lock F ts) ∧ Kept w w' := by
  have HR : Hid (Rdy w) := hr
  have HA : Hid (AtT w ta ts) := hA
  have HPG : Hid (∀ t ∈ ts, checkP t.prog = (0, 0)) := hpg
  have HBL : Hid (∀ i t, ts[i]? = some t → Bal 3 0 0 t.prog (F i)) := hbl
  obtain ⟨i3, hi3, hi30, hi31, hi38⟩ := info2
  have HB : Hid (Box w.heap.size (w.alloc (.cells #[.int .i64 L, .slice ca nc cc, .slice ta ts.length tc] 36)) 36 w.heap.size [.int .i64 L, .slice ca nc cc, .slice ta ts.length tc]) := box_new w.heap.size w 36 [.int .i64 L, .slice ca nc cc, .slice ta ts.length tc] (Nat.le_refl _) (by simp)
  have hbs : w.heap.size ≤ (w.alloc (.cells #[.int .i64 L, .slice ca nc cc, .slice ta ts.length tc] 36)).heap.size := by simp
  have r1 : ¬ (lock < 0) := by omega
  have r2 : ¬ (lock ≥ L) := by omega
  clear hr hA hpg hbl hl0 hlL
  go_enter Tryz.func34, Tryz.ntmps34
  go_wp2_with (refine wpList_make_full _ rfl _ _ 60 rfl w.heap.size 2 i3 _ 1 Tryz.underlying60 hi3 hi30 hi31 _ _ _ _ ts.length rfl rfl rfl rfl (by rw [hi38]; omega) (by unfold maxLen; omega) hbs ?_; intro w1 ow1 gr1; have hsz : (w.alloc (.cells #[.int .i64 L, .slice ca nc cc, .slice ta ts.length tc] 36)).heap.size = w.heap.size + 1 := (by simp); rw [hsz] at ow1; have HI0 : Hid (IRow 2 w.heap.size w1 (.slice (some ⟨w.heap.size + 1, 0, none⟩) ts.length ts.length) (secT lock F ts ts.length 0)) := (by show IRow _ _ _ _ _; rw [secT_zero]; exact irow_made2 ow1); have KA : Kept (w.alloc (.cells #[.int .i64 L, .slice ca nc cc, .slice ta ts.length tc] 36)) w1 := (Turns.grown (S := fun _ => False) gr1 (fun k e => by cases e)).kept (Kept.refl _) (fun i hi => hi.elim); have HB1 : Hid (Box w.heap.size w1 36 w.heap.size [.int .i64 L, .slice ca nc cc, .slice ta ts.length tc]) := HB.out.kept KA; have K1 : Kept w w1 := ((Kept.refl w).alloc _).trans KA; have s2 : w1.cell? ⟨w.heap.size, 2, none⟩ = some (.slice ta ts.length tc) := HB1.out.cell 2 (by simp); clear ow1 gr1 HB KA hsz hbs)
  go_loopg [23] ts.length (fun gk i wr => ∃ (k : Nat) (W : World), W = wr ∧ i = .int .i64 k ∧ k + gk = ts.length ∧ Hid (IRow 2 w.heap.size W (.slice (some ⟨w.heap.size + 1, 0, none⟩) ts.length ts.length) (secT lock F ts ts.length k)) ∧ Kept w W)
  case atStart => exact ⟨0, _, rfl, rfl, by omega, HI0, K1⟩
  case round =>
    obtain ⟨k, W, hW, rfl, hk, HI, K⟩ := hrel
    subst hW
    by_cases hkL : k < ts.length
    · have b1 : (k : Int) < (ts.length : Int) := by omega
      have b2 : (0 : Int) ≤ (k : Int) := by omega
      obtain ⟨b, f, nm, pd, dl, bu, pr, pa, pc, rfl, hpj, g0, g1, g2, g3, g4, hpc, hat, hbl, _⟩ := (HA.out.kept K).get k hkL
      have hck := HPG.out _ (List.mem_of_getElem? hpj)
      have hba := HBL.out k _ hpj
      simp only at hck hba
      have hsv : secV lock F ts k = min (secGo lock 0 0 (F k)) (min (costD pr) bu) := by unfold secV; rw [hpj]
      obtain ⟨z1, hz1⟩ : ∃ z, secGo lock 0 0 (F k) = z := ⟨_, rfl⟩
      obtain ⟨z2, hz2⟩ : ∃ z, min (costD pr) bu = z := ⟨_, rfl⟩
      have HN1 : Hid (NeedB 50 #[.slice pa pr.length pc, .int .i64 lock] W z1) := ⟨fun wx kx => by
        have h := section_any pa pc pr (F k) lock wx (HR.out.kept (K.trans kx)) (hat.kept kx) hpc hck hba
        rw [hz1] at h
        exact h⟩
      have HN2 : Hid (NeedB 16 #[.agg #[.string (B nm), .int .i64 pd, .int .i64 dl, .int .i64 bu, .slice pa pr.length pc]] W z2) := ⟨fun wx kx => by
        have h := need_any nm pd dl bu pr pa pc wx (hat.kept kx) hck
        rw [hz2] at h
        exact h⟩
      rw [hz1, hz2] at hsv
      obtain ⟨z, hz⟩ : ∃ z, min z1 z2 = z := ⟨_, rfl⟩
      rw [hz] at hsv
      have HSET : Hid ((secT lock F ts ts.length k).set k z = secT lock F ts ts.length (k + 1)) := secT_set lock F ts _ k z hsv
      have hlw := (World.ownsRow.lt HI.out (w.heap.size + 1) rfl).2
      have hne : w.heap.size + 1 ≠ W.heap.size := by omega
      have KD : Kept W ((W.alloc (.cells #[.string (B nm), .int .i64 pd, .int .i64 dl, .int .i64 bu, .slice pa pr.length pc] 58)).drew) := ((Kept.refl W).alloc _).drew
      have HX : Hid (Box W.heap.size (W.alloc (.cells #[.string (B nm), .int .i64 pd, .int .i64 dl, .int .i64 bu, .slice pa pr.length pc] 58)) 58 W.heap.size [.string (B nm), .int .i64 pd, .int .i64 dl, .int .i64 bu, .slice pa pr.length pc]) := box_new W.heap.size W 58 [.string (B nm), .int .i64 pd, .int .i64 dl, .int .i64 bu, .slice pa pr.length pc] (Nat.le_refl _) (by simp)
      have t0 : ((W.alloc (.cells #[.string (B nm), .int .i64 pd, .int .i64 dl, .int .i64 bu, .slice pa pr.length pc] 58))).cell? ⟨W.heap.size, 0, none⟩ = some (.string (B nm)) := HX.out.cell 0 (by simp)
      have t1 : ((W.alloc (.cells #[.string (B nm), .int .i64 pd, .int .i64 dl, .int .i64 bu, .slice pa pr.length pc] 58))).cell? ⟨W.heap.size, 1, none⟩ = some (.int .i64 pd) := HX.out.cell 1 (by simp)
      have t2 : ((W.alloc (.cells #[.string (B nm), .int .i64 pd, .int .i64 dl, .int .i64 bu, .slice pa pr.length pc] 58))).cell? ⟨W.heap.size, 2, none⟩ = some (.int .i64 dl) := HX.out.cell 2 (by simp)
      have t3 : ((W.alloc (.cells #[.string (B nm), .int .i64 pd, .int .i64 dl, .int .i64 bu, .slice pa pr.length pc] 58))).cell? ⟨W.heap.size, 3, none⟩ = some (.int .i64 bu) := HX.out.cell 3 (by simp)
      have t4 : ((W.alloc (.cells #[.string (B nm), .int .i64 pd, .int .i64 dl, .int .i64 bu, .slice pa pr.length pc] 58))).cell? ⟨W.heap.size, 4, none⟩ = some (.slice pa pr.length pc) := HX.out.cell 4 (by simp)
      obtain ⟨gi, rfl⟩ : ∃ g, gk = g + 1 := ⟨gk - 1, by omega⟩
      clear hpj hat hck hba hz1 hz2 hsv hlw
      go_wp2_with fail
      go_region_held3 (fun w' => w'.cell? ⟨W.heap.size, 0, none⟩ = some (.string (B nm)) ∧ w'.cell? ⟨W.heap.size, 1, none⟩ = some (.int .i64 pd) ∧ w'.cell? ⟨W.heap.size, 2, none⟩ = some (.int .i64 dl) ∧ w'.cell? ⟨W.heap.size, 3, none⟩ = some (.int .i64 bu) ∧ w'.cell? ⟨W.heap.size, 4, none⟩ = some (.slice pa pr.length pc)) (go_keep) (first | (go_at_call 50; refine (HN1.out.run _ KD).mono ?_; rintro e w9 ⟨rfl, T9⟩; have N1 := KD.trans T9; have M1 := ((Kept.refl _).drew).trans T9; have m0 := M1.cell t0; have m1 := M1.cell t1; have m2 := M1.cell t2; have m3 := M1.cell t3; have m4 := M1.cell t4) | (go_at_call 16; refine (HN2.out.run _ N1).mono ?_; rintro e w10 ⟨rfl, T10⟩; have N2 := N1.trans T10; have M2 := M1.trans T10; have k0 := M2.cell t0; have k1 := M2.cell t1; have k2 := M2.cell t2; have k3 := M2.cell t3; have k4 := M2.cell t4; have c1 := irow_cell (HI.out.kept N2) (secT_len lock F ts _ k) k 0 (secT_get hkL); have f1 := irow_frozen (HI.out.kept N2) (secT_len lock F ts _ k) k) | fail)
      go_wp2_with fail
      go_roundg gi
      case rel =>
        have t := turn_set w10 (w.heap.size + 1) k (.int .i64 z)
        have h5 := irow_set (HI.out.kept N2) (secT_len lock F ts _ k) k z
        rw [HSET.out] at h5
        exact ⟨k + 1, _, rfl, by go_num, by omega, h5, t.kept (K.trans N2) (fun i hi => by omega)⟩
      case measure => omega
    · have b1 : ¬ (k : Int) < (ts.length : Int) := by omega
      have HF : Hid (AtI W (some ⟨w.heap.size + 1, 0, none⟩) (secD lock F ts)) := by
        have h5 := irow_at2 HI.out (secT_len lock F ts _ k)
        rw [show k = ts.length by omega, secT_end] at h5
        exact h5
      go_wp2_with fail
      go_ret
      exact ⟨w.heap.size + 1, rfl, by omega, HF.out, K⟩
end Go.Proofs.YtlkbphogpbcjfaaGreatDoor
