/- without; Higher once more; a deadline that is shortened. -/
import Derived.Test.YtcfgcbjhlamchaaOrQ
namespace Go.Proofs.Ytcfgcbjhlamchaa
open Go.RowKit Go.Sort

/-- Of the first m, but the k-th, how many are below x. -/
def cnt (P : List Int) (k : Nat) (x : Int) (m : Nat) : Nat := (List.range m).countP (fun j => decide (j ≠ k) && decide (P.getD j 0 < x))
theorem cnt_succ (P : List Int) (k : Nat) (x : Int) (m : Nat) : cnt P k x (m + 1) = cnt P k x m + (if m ≠ k ∧ P.getD m 0 < x then 1 else 0) := by
  unfold cnt
  rw [List.range_succ, List.countP_append]
  congr 1
  by_cases h1 : m = k
  · simp [h1]
  · by_cases h2 : P.getD m 0 < x
    · simp [h1]
    · simp [h1]
theorem cnt_le (P : List Int) (k : Nat) (x : Int) (m : Nat) : cnt P k x m ≤ m := by
  have := List.countP_le_length (p := fun j => decide (j ≠ k) && decide (P.getD j 0 < x)) (l := List.range m)
  rw [List.length_range] at this
  exact this
/-- What without has made of the first m. -/
def wo (P : List Int) (k m : Nat) : List Int := ((List.range m).filter (fun i => decide (i ≠ k))).map (fun i => (cnt P k (P.getD i 0) P.length : Int))
theorem wo_skip (P : List Int) (k : Nat) : wo P k (k + 1) = wo P k k := by
  unfold wo
  rw [List.range_succ, List.filter_append]
  simp
theorem wo_next (P : List Int) (k m : Nat) (h : m ≠ k) : wo P k (m + 1) = wo P k m ++ [(cnt P k (P.getD m 0) P.length : Int)] := by
  unfold wo
  rw [List.range_succ, List.filter_append, List.map_append]
  simp [h]
theorem wo_len (P : List Int) (k m : Nat) : (wo P k m).length ≤ m := by
  unfold wo
  rw [List.length_map]
  have := List.length_filter_le (fun i => decide (i ≠ k)) (List.range m)
  rw [List.length_range] at this
  exact this
theorem irow_view {B : Nat} {w : World} {v : Value} {l : List Int} (h : IRow 3 B w v l) : ∃ a c, v = .slice a l.length c ∧ AtI w a l ∧ (∀ b f, a = some ⟨b, f, none⟩ → B ≤ b) := by
  rcases h.2 with ⟨h1, h2⟩ | ⟨g, cap, cur, h1, hb, _⟩
  · refine ⟨none, 0, by rw [h1, h2], ?_, fun b f e => by cases e⟩
    rw [List.eq_nil_of_length_eq_zero h2]
    intro j x hj
    simp at hj
  · subst h1
    exact ⟨some ⟨g, 0, none⟩, cap, rfl, irow_at h rfl, fun b f e => by cases e; exact hb⟩
set_option maxHeartbeats 4000000 in
set_option maxRecDepth 10000 in
theorem without_any (a : Option Addr) (n c : Nat) (P : List Int) (k : Nat) (w : World) (hn : P.length = n) (hA : AtI w a P) (hn1 : n ≤ 1000) :
    Calls Try.prog 18 #[.slice a n c, .int .i64 k] w fun e w' => ∃ va vc, e = .returned (.slice va (wo P k n).length vc) ∧ AtI w' va (wo P k n) ∧ (∀ b f, va = some ⟨b, f, none⟩ → w.heap.size ≤ b) ∧ Kept w w' := by
  have HA : Hid (AtI w a P) := hA
  have HN : Hid (P.length = n) := hn
  clear hA hn
  go_enter Try.func18, Try.ntmps18
  go_wp2_with fail
  go_loopg [5, 6] n (fun gk x5 i wr => ∃ (m : Nat) (v : Value), v = x5 ∧ i = .int .i64 m ∧ m + gk = n ∧ Hid (IRow 3 w.heap.size wr v (wo P k m)) ∧ Kept w wr)
  case atStart => exact ⟨0, _, rfl, rfl, by omega, IRow.nil _ _ _, Kept.refl w⟩
  case round =>
    obtain ⟨m, v, hv, rfl, hm, HI, KR⟩ := hrel
    subst hv
    by_cases hmn : m < n
    · have b1 : (m : Int) < (n : Int) := by omega
      have b2 : (0 : Int) ≤ (m : Int) := by omega
      obtain ⟨x, hx⟩ : ∃ x, P.getD m 0 = x := ⟨_, rfl⟩
      have HCX : Hid (∃ b f, a = some ⟨b, f, none⟩ ∧ ∀ wx, Kept w wx → ∀ q, q < n → wx.cell? ⟨b, f + q, none⟩ = some (.int .i64 (P.getD q 0))) := by
        have hl := HN.out
        obtain ⟨b, f, e, _⟩ := HA.out m _ (List.getElem?_eq_getElem (show m < P.length by omega))
        refine ⟨b, f, e, fun wx kx q hq => ?_⟩
        obtain ⟨b', f', e', hc⟩ := (HA.out.kept kx) q _ (List.getElem?_eq_getElem (show q < P.length by omega))
        rw [e] at e'
        cases e'
        rw [hc, List.getD_eq_getElem?_getD, List.getElem?_eq_getElem (show q < P.length by omega)]
        rfl
      obtain ⟨b, f, rfl, hcc⟩ := HCX.out
      have HC : Hid (∀ wx, Kept w wx → ∀ q, q < n → wx.cell? ⟨b, f + q, none⟩ = some (.int .i64 (P.getD q 0))) := hcc
      clear hcc HCX
      obtain ⟨gm, rfl⟩ : ∃ g, gk = g + 1 := ⟨gk - 1, by omega⟩
      obtain ⟨wo1, rfl⟩ : ∃ z, z = wr := ⟨_, rfl⟩
      go_wp2_with fail
      go_loopg [7, 8] n (fun gk y7 i wr2 => ∃ (q ct : Nat) (W : World), W = wr2 ∧ y7 = .int .i64 ct ∧ i = .int .i64 q ∧ q + gk = n ∧ ct ≤ q ∧ Hid (ct = cnt P k x q) ∧ Hid (IRow 3 w.heap.size W v (wo P k m)) ∧ Kept w W)
      case atStart => exact ⟨0, 0, _, rfl, rfl, rfl, by omega, by omega, (by show _ = _; simp [cnt]), HI, KR⟩
      case round =>
        obtain ⟨q, ct, W, hW, rfl, rfl, hq, hct, HCT, HI2, KS⟩ := hrel
        subst hW
        by_cases hqn : q < n
        · have b3 : (q : Int) < (n : Int) := by omega
          have b4 : (0 : Int) ≤ (q : Int) := by omega
          have c1 := HC.out W KS q hqn
          have c2 := HC.out W KS m hmn
          rw [hx] at c2
          obtain ⟨y, hy⟩ : ∃ y, P.getD q 0 = y := ⟨_, rfl⟩
          rw [hy] at c1
          have hcs := cnt_succ P k x q
          rw [hy, ← HCT.out] at hcs
          obtain ⟨gi, rfl⟩ : ∃ g, gk = g + 1 := ⟨gk - 1, by omega⟩
          by_cases hqk : q = k
          · subst hqk
            have e1 : ((q : Int) != (q : Int)) = false := by simp
            rw [if_neg (by omega)] at hcs
            have HCS : Hid (cnt P q x (q + 1) = ct + 0) := hcs
            clear hcs
            go_wp2_with fail
            go_big_region
            all_goals go_wp2_with fail
            go_roundg gi
            case rel => exact ⟨q + 1, ct, _, rfl, rfl, by go_num, by omega, by omega, HCS.out.symm, HI2.out.kept ((Kept.refl W).drew), KS.drew⟩
            case measure => omega
          · have e1 : ((q : Int) != (k : Int)) = true := by simp; omega
            by_cases hyx : y < x
            · rw [if_pos ⟨hqk, hyx⟩] at hcs
              have HCS : Hid (cnt P k x (q + 1) = ct + 1) := hcs
              clear hcs
              go_wp2_with fail
              go_region_held3 (fun w' => w'.cell? ⟨b, f + q, none⟩ = some (.int .i64 y) ∧ w'.cell? ⟨b, f + m, none⟩ = some (.int .i64 x)) (go_keep) (fail)
              go_wp2_with fail
              go_roundg gi
              case rel => exact ⟨q + 1, ct + 1, _, rfl, by go_num, by go_num, by omega, by omega, HCS.out.symm, HI2.out.kept ((Kept.refl W).drew), KS.drew⟩
              case measure => omega
            · rw [if_neg (by omega)] at hcs
              have HCS : Hid (cnt P k x (q + 1) = ct + 0) := hcs
              clear hcs
              go_wp2_with fail
              go_region_held3 (fun w' => w'.cell? ⟨b, f + q, none⟩ = some (.int .i64 y) ∧ w'.cell? ⟨b, f + m, none⟩ = some (.int .i64 x)) (go_keep) (fail)
              go_wp2_with fail
              go_roundg gi
              case rel => exact ⟨q + 1, ct, _, rfl, rfl, by go_num, by omega, by omega, HCS.out.symm, HI2.out.kept ((Kept.refl W).drew), KS.drew⟩
              case measure => omega
        · have b3 : ¬ (q : Int) < (n : Int) := by omega
          by_cases hmk : m = k
          · subst hmk
            have e1 : ((m : Int) != (m : Int)) = false := by simp
            have HI3 : Hid (IRow 3 w.heap.size W v (wo P m (m + 1))) := by show IRow _ _ _ _ _; rw [wo_skip]; exact HI2.out
            go_wp2_with fail
            go_roundg gm
            case rel => exact ⟨m + 1, v, rfl, by go_num, by omega, HI3, KS⟩
            case measure => omega
          · have e1 : ((m : Int) != (k : Int)) = true := by simp; omega
            have HW : Hid (wo P k (m + 1) = wo P k m ++ [(ct : Int)]) := by
              show _ = _
              rw [wo_next P k m hmk, hx, HN.out, HCT.out, show q = n by omega]
            have hln : (wo P k m).length ≤ 1000000 := by have := wo_len P k m; omega
            go_wp2_with (at_builtin; refine wpList_append_int nInt _ (by rfl) _ _ rfl w.heap.size v (wo P k m) (ct : Int) W (by rfl) (by rfl) W.heap.size (by rfl) (by rfl) HI2.out hln KS.size ?_; intro g5 c5 w5 R5 gr5 at5; have T5 : Turns (fun k => v.ownBlock = some k) W w5 := ((Turns.refl _ W).alloc _).trans (Turns.grown gr5 (fun k e => e)); have K5 : Kept w w5 := T5.kept KS (fun i hi => (World.ownsRow.lt HI2.out i hi).1); rw [← HW.out] at R5)
            go_roundg gm
            case rel => exact ⟨m + 1, _, rfl, by go_num, by omega, R5, K5⟩
            case measure => omega
    · have b1 : ¬ (m : Int) < (n : Int) := by omega
      obtain rfl : n = m := by omega
      obtain ⟨va, vc, hv, A5, N5⟩ := irow_view HI.out
      subst hv
      have HF : Hid (AtI wr va (wo P k n) ∧ (∀ b f, va = some ⟨b, f, none⟩ → w.heap.size ≤ b)) := ⟨A5, N5⟩
      clear A5 N5
      go_wp2_with fail
      go_ret
      exact ⟨va, ⟨vc, rfl⟩, HF.out.1, HF.out.2, KR⟩
set_option maxHeartbeats 2000000 in
theorem higher_far (L : Int) (ca : Option Addr) (nc cc : Nat) (a : Option Addr) (n c : Nat) (D : Nat → Int) (x : Nat) (hx : x < n) (w : World) (hD : AtD w a n D) (h20 : n < 20) :
    Calls Try.prog 11 #[.agg #[.int .i64 L, .slice ca nc cc, .slice a n c], .int .i64 x] w fun e w' => ∃ va m vc, e = .returned (.slice va m vc) ∧ m = (hiD n D x).length ∧ AtI w' va (hiD n D x) ∧ (∀ b f, va = some ⟨b, f, none⟩ → w.heap.size ≤ b) ∧ Kept w w' := by
  have KA := (Kept.refl w).alloc (.cells #[.int .i64 L, .slice ca nc cc, .slice a n c] 33)
  have ht := isTask_any L ca nc cc a n c x (w.alloc (.cells #[.int .i64 L, .slice ca nc cc, .slice a n c] 33))
  rw [decide_eq_true (show (0 : Int) ≤ (x : Int) ∧ (x : Int) < (n : Int) by omega)] at ht
  have HB : Hid (Box w.heap.size (w.alloc (.cells #[.int .i64 L, .slice ca nc cc, .slice a n c] 33)) 33 w.heap.size [.int .i64 L, .slice ca nc cc, .slice a n c]) := box_new w.heap.size w 33 [.int .i64 L, .slice ca nc cc, .slice a n c] (Nat.le_refl _) (by simp)
  have HD : Hid (AtD w a n D) := hD
  clear hD
  go_enter Try.func11, Try.ntmps11
  go_wp2_with (first | (go_at_call 26; refine ht.mono ?_; rintro e w1 ⟨rfl, K1⟩; have HB1 := HB.out.kept K1; have s0 := HB1.cell 0 (by simp); have s1 := HB1.cell 1 (by simp); have s2 := HB1.cell 2 (by simp); simp only [List.getElem?_cons_zero, List.getElem?_cons_succ] at s0 s1 s2; have hrow := row_any L ca nc cc a n c D w1 (HD.out.kept (KA.trans K1)) (by omega) h20; clear HB1 ht) | fail)
  refine hrow.mono ?_
  rintro e w2 ⟨R, g, hR, rfl, hg1, hg2, hH, K2⟩
  clear s0 s1 s2 hrow
  obtain ⟨hp1, hp2⟩ := row_first hR hx
  have hkn := rank_lt hR hx
  have hRl : (R.map (fun j : Nat => (j : Int))).length = n := by rw [List.length_map, hR.len]
  have hpl := place_any g n (rank n D x) (R.map (fun j : Nat => (j : Int))) (x : Int) w2 hH hp1 hp2 (by omega)
  rw [hRl] at hpl
  have hat := hR.at hx
  have KW := (KA.trans K1).trans K2
  have hgw : w.heap.size ≤ g := by have h := (KA.trans K1).size; omega
  have hri := rising_any g 0 n ((R.map (fun j : Nat => (j : Int))).take (rank n D x)) w2 (holds_take hH _) hg2 (by rw [List.length_take]; omega)
  have hlen : ((R.map (fun j : Nat => (j : Int))).take (rank n D x)).length = rank n D x := by rw [List.length_take]; omega
  have hms : ((R.map (fun j : Nat => (j : Int))).take (rank n D x)).mergeSort (fun x y => decide (x ≤ y)) = hiD n D x := by rw [← List.map_take]; exact hR.high hat
  have hml : rank n D x = (hiD n D x).length := by rw [← hms, List.length_mergeSort, hlen]
  rw [hlen, hms] at hri
  have HML : Hid (rank n D x = (hiD n D x).length) := hml
  clear hml hms hlen hp1 hp2 hH hat hRl hR
  generalize rank n D x = k at *
  have b1 : (0 : Int) ≤ (k : Int) := by omega
  have b2 : (k : Int) ≤ (n : Int) := by omega
  go_wp2_with (first | (go_at_call 29; refine hpl.mono ?_; rintro e w3 ⟨rfl, hw3⟩; subst w3) | (go_at_call 28; refine hri.mono ?_; rintro e w4 ⟨rfl, T4, A4⟩) | fail)
  go_ret
  exact ⟨_, _, _, rfl, HML.out, A4, (fun b f e => by cases e; exact hgw), T4.kept KW (fun i hi => by omega)⟩
theorem flatQ_set (P : Int) (x : Int) : ∀ (es : List (List UInt8 × Int × Nat)) (k : Nat) (e : List UInt8 × Int × Nat), es[k]? = some e → (flatQ P es).set (k * 5 + 2) (.int .i64 x) = flatQ P (es.set k (e.1, x, e.2.2))
  | [], _, _, h => by simp at h
  | y :: r, 0, e, h => by
    simp at h
    subst h
    simp [flatQ, tkV]
  | y :: r, k + 1, e, h => by
    have ih := flatQ_set P x r k e (by simpa using h)
    have e1 : flatQ P (y :: r) = tkV P y ++ flatQ P r := rfl
    have e2 : flatQ P ((y :: r).set (k + 1) (e.1, x, e.2.2)) = tkV P y ++ flatQ P (r.set k (e.1, x, e.2.2)) := rfl
    rw [e1, e2, ← ih, List.set_append_right _ _ (by simp [tkV]; omega)]
    congr 2
    simp [tkV]
    omega
theorem qrow_set {P : Int} {Bd : Nat} {w : World} {g n c : Nat} {es : List (List UInt8 × Int × Nat)} {e : List UInt8 × Int × Nat} (h : QRow P Bd w (.slice (some ⟨g, 0, none⟩) n c) es) (hn : es.length = n) (k : Nat) (x : Int) (he : es[k]? = some e) : QRow P Bd (w.setCell ⟨g, k * 5 + 2, none⟩ (.int .i64 x)) (.slice (some ⟨g, 0, none⟩) n c) (es.set k (e.1, x, e.2.2)) := by
  subst hn
  unfold QRow at h ⊢
  rw [List.length_set, ← flatQ_set P x es k e he]
  exact (World.ownsRow.stored h (k * 5 + 2) (.int .i64 x)).1
theorem dlOf_set {es : List (List UInt8 × Int × Nat)} {k : Nat} {e : List UInt8 × Int × Nat} (h : k < es.length) (q : Nat) : dlOf (es.set k e) q = if q = k then e.2.1 else dlOf es q := by
  unfold dlOf
  by_cases hq : q = k
  · subst hq
    rw [if_pos rfl, List.getElem?_set_self h]
  · rw [if_neg hq, List.getElem?_set_ne (fun e => hq e.symm)]
/-- Who goes ahead of the one that is shortened went ahead of it. -/
theorem hi_less {k : Nat} {D D' : Nat → Int} (hk : D' k ≤ D k) (ho : ∀ q, q ≠ k → D' q = D q) (j : Nat) (h : befB D' j k = true) : befB D j k = true := by
  rw [befB_iff] at *
  unfold bef at *
  by_cases e : j = k
  · subst e
    omega
  · rw [ho j e] at h
    omega
theorem hi_len {n k : Nat} {D D' : Nat → Int} (hk : D' k ≤ D k) (ho : ∀ q, q ≠ k → D' q = D q) : (hiD n D' k).length ≤ (hiD n D k).length := by
  unfold hiD
  rw [List.length_map, List.length_map, ← List.countP_eq_length_filter, ← List.countP_eq_length_filter]
  exact List.countP_mono_left (fun j _ h => hi_less hk ho j h)
theorem hi_mem {n k : Nat} {D D' : Nat → Int} (hk : D' k ≤ D k) (ho : ∀ q, q ≠ k → D' q = D q) (z : Int) (h : z ∈ hiD n D' k) : z ∈ hiD n D k := by
  unfold hiD at *
  simp only [List.mem_map, List.mem_filter] at *
  obtain ⟨j, ⟨h1, h2⟩, e⟩ := h
  exact ⟨j, ⟨h1, hi_less hk ho j h2⟩, e⟩
theorem prD_getD {n : Nat} {D : Nat → Int} {j : Nat} (hj : j < n) : (prD n D).getD j 0 = (n : Int) - (rank n D j : Int) := by
  rw [List.getD_eq_getElem?_getD, prD_get hj]
  rfl
/-- The others stay as they are among themselves. -/
theorem wo_same {n k : Nat} {D D' : Nat → Int} (h1 : 1 ≤ n) (ho : ∀ q, q ≠ k → D' q = D q) : wo (prD n D') k n = wo (prD n D) k n := by
  obtain ⟨R, hR⟩ := row_ex n D h1
  obtain ⟨R', hR'⟩ := row_ex n D' h1
  unfold wo
  refine List.map_congr_left (fun i hi => ?_)
  simp only [List.mem_filter, List.mem_range, decide_eq_true_eq] at hi
  obtain ⟨hin, hik⟩ := hi
  congr 1
  unfold cnt
  rw [prD_len, prD_len]
  refine List.countP_congr (fun j hj => ?_)
  have hjn := List.mem_range.1 hj
  by_cases hjk : j = k
  · simp [hjk]
  · have a1 := rank_bef hR hin hjn
    have a2 := rank_bef hR' hin hjn
    have a3 : bef D' i j ↔ bef D i j := by unfold bef; rw [ho i hik, ho j hjk]
    rw [prD_getD hjn, prD_getD hjn, prD_getD hin, prD_getD hin]
    simp only [hjk, ne_eq, not_false_eq_true, decide_true, Bool.true_and, decide_eq_true_eq]
    have h3 := a2.trans (a3.trans a1.symm)
    omega
end Go.Proofs.Ytcfgcbjhlamchaa
