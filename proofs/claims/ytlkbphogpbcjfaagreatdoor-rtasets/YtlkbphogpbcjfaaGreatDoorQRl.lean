/- The reference's Locks and into. The reference's Section. The reference's Need. -/
import Derived.Test.YtlkbphogpbcjfaaGreatDoorQLs
import Derived.Test.YtlkbphogpbcjfaaGreatDoorQbase
import Derived.Test.YtlkbphogpbcjfaaGreatDoorQUf
import Derived.Test.YtlkbphogpbcjfaaGreatDoorQSt
namespace Go.Proofs.YtlkbphogpbcjfaaGreatDoor
open Go.RowKit

/-- A number in its place, once. -/
def intoD : List Int → Int → List Int
  | [], n => [n]
  | x :: r, n => if x < n then x :: intoD r n else if x = n then x :: r else n :: x :: r
theorem intoD_mem : ∀ (l : List Int) (n x : Int), x ∈ intoD l n ↔ x = n ∨ x ∈ l
  | [], n, x => by simp [intoD]
  | y :: r, n, x => by
    rw [intoD]
    split
    · rw [List.mem_cons, intoD_mem r n x, List.mem_cons]
      constructor
      · rintro (h | h | h) <;> simp [h]
      · rintro (h | h | h) <;> simp [h]
    · split
      · rename_i h1 h2
        subst h2
        simp
      · simp
theorem intoD_sorted : ∀ (l : List Int) (n : Int), l.Pairwise (· < ·) → (intoD l n).Pairwise (· < ·)
  | [], n, _ => by simp [intoD]
  | y :: r, n, h => by
    rw [List.pairwise_cons] at h
    rw [intoD]
    split
    · rename_i h1
      rw [List.pairwise_cons]
      refine ⟨fun z hz => ?_, intoD_sorted r n h.2⟩
      rcases (intoD_mem r n z).1 hz with e | e
      · omega
      · exact h.1 z e
    · split
      · rw [List.pairwise_cons]
        exact h
      · rw [List.pairwise_cons, List.pairwise_cons]
        refine ⟨fun z hz => ?_, h⟩
        rcases List.mem_cons.1 hz with e | e
        · omega
        · have := h.1 z e
          omega
theorem intoD_at : ∀ (l : List Int) (n : Int) (k : Nat), k ≤ l.length → (∀ x ∈ l.take k, x < n) → (∀ x, l[k]? = some x → n ≤ x) → intoD l n = if l[k]? = some n then l else l.take k ++ [n] ++ l.drop k
  | [], n, k, hk, _, _ => by
    have : k = 0 := by simpa using hk
    subst this
    simp [intoD]
  | y :: r, n, 0, _, _, h2 => by
    have hy := h2 y rfl
    rw [intoD, if_neg (by omega)]
    by_cases e : y = n
    · subst e
      simp
    · rw [if_neg e, if_neg (by simpa using e)]
      simp
  | y :: r, n, k + 1, hk, h1, h2 => by
    have hy := h1 y (by simp)
    rw [intoD, if_pos hy, intoD_at r n k (by simpa using hk) (fun x hx => h1 x (by simp [hx])) (fun x hx => h2 x (by simpa using hx))]
    by_cases e : r[k]? = some n
    · rw [if_pos e, if_pos (by simpa using e)]
    · rw [if_neg e, if_neg (by simpa using e)]
      simp
def foldI (l : List Int) : List Int := l.foldl intoD []
theorem foldI_next (l : List Int) (n : Int) : foldI (l ++ [n]) = intoD (foldI l) n := by simp [foldI]
theorem foldl_into : ∀ (l acc : List Int), acc.Pairwise (· < ·) → (l.foldl intoD acc).Pairwise (· < ·) ∧ ∀ x, x ∈ l.foldl intoD acc ↔ x ∈ acc ∨ x ∈ l
  | [], acc, h => ⟨h, fun x => by simp⟩
  | y :: r, acc, h => by
    obtain ⟨h1, h2⟩ := foldl_into r (intoD acc y) (intoD_sorted acc y h)
    refine ⟨h1, fun x => ?_⟩
    rw [List.foldl_cons, h2, intoD_mem, List.mem_cons]
    constructor
    · rintro ((h | h) | h) <;> simp [h]
    · rintro (h | h | h) <;> simp [h]
theorem foldI_locks (p : List OpD) : foldI (lockNs p) = locksD p := by
  obtain ⟨h1, h2⟩ := foldl_into (lockNs p) [] List.Pairwise.nil
  exact strict_ext _ _ h1 (locksD_strict p) (fun x => by unfold foldI; rw [h2, locksD_mem]; simp)
theorem intoD_len : ∀ (l : List Int) (n : Int), (intoD l n).length ≤ l.length + 1
  | [], n => by simp [intoD]
  | y :: r, n => by
    rw [intoD]
    have := intoD_len r n
    split
    · simp only [List.length_cons]; omega
    · split <;> simp
theorem foldI_len (l : List Int) : (foldI l).length ≤ l.length := by
  have h : ∀ (l acc : List Int), (l.foldl intoD acc).length ≤ acc.length + l.length := by
    intro l
    induction l with
    | nil => intro acc; simp
    | cons y r ih =>
      intro acc
      have h1 := ih (intoD acc y)
      have h2 := intoD_len acc y
      simp only [List.foldl_cons, List.length_cons]
      omega
  have := h l []
  simpa [foldI] using this

/-- Numbers that lie somewhere, behind a row of the call's own. -/
theorem wpList_app_nums (w : World) {ops : Array Oper} {rest : List Oper} {o : Oper} {a : Act} {Q : Exit → Act → World → Prop} (hw : Region.wanted o (yielded ops a.tmps) = true) (s x : Operand)
    (ho : o.op = .call { callee := .builtin .append, args := #[s, x], argTypes := #[66, 66] }) (base : Nat) (v1 : Value) (l1 : List Int) (hs : a.eval s = v1) (ca0 : Option Addr) (n cc : Nat) (l : List Int) (hln : n = l.length) (hx : a.eval x = .slice ca0 n cc) (hn : ca0 = none → cc = 0) (hA : AtI w ca0 l) (h1 : IRow 3 base w v1 l1) (hl1 : l1.length ≤ 1000000) (hl : l.length ≤ 1000000) (hB : base ≤ w.heap.size)
    (h : ∀ v w', IRow 3 base w' v (l1 ++ l) → Turns (fun k => v1.ownBlock = some k) w w' → wpList Tryz.prog ops Q rest (a.put o.dst v) w') : wpList Tryz.prog ops Q (o :: rest) a w := by
  subst hln
  refine wpList_step fun K hK => ?_
  rw [if_pos hw]
  obtain ⟨i, hi, hz0, hz1, hz2⟩ := info_parts nInt.inf
  have h0 : w.ownsRow base 3 1 v1 l1.length (l1.map intV) := h1
  cases ca0 with
  | none =>
    have hl0 : l = [] := by
      cases l with
      | nil => rfl
      | cons c r =>
        obtain ⟨b, f, e, _⟩ := hA 0 c rfl
        cases e
    subst hl0
    have hc0 := hn rfl
    subst hc0
    have hrun := run_append_owned_none (P := Tryz.prog) w base 66 o.type 3 i 1 nInt.und hi v1 l1.length (l1.map intV) h0
    unfold Oper.wp
    simp [execOp, ho, resolve, invoke, builtin, hs, hx, hrun, Result.andThen]
    exact hK _ _ (h _ _ (by rw [List.append_nil]; exact h1) (Turns.refl _ _))
  | some ca =>
  have hsrc : ∀ j u, (l.map intV)[j]? = some u → w.cell? (Addr.add ca j) = some u := by
    intro j u hu
    rw [List.getElem?_map] at hu
    cases hj : l[j]? with
    | none => rw [hj] at hu; simp at hu
    | some y =>
      rw [hj] at hu
      simp at hu
      subst hu
      obtain ⟨b, f, e, hc⟩ := hA j y hj
      cases e
      rw [Addr.add_lit]
      exact hc
  obtain ⟨v', w', hr, k1, k2, k3, k4⟩ := run_append_own_at (P := Tryz.prog) w base 66 o.type 3 i _ 1 8 nInt.und hi hz0 hz1 hz2 rfl (by omega) v1 l1.length (l1.map intV) h0 ca l.length cc (l.map intV) (by simp) hsrc (int_ones l) (by unfold maxLen; omega) (by omega) hB
  unfold Oper.wp
  simp [execOp, ho, resolve, invoke, builtin, hs, hx, hr, Result.andThen]
  refine hK _ _ (h v' w' ?_ (Turns.grown k2 (fun k e => e)))
  unfold IRow
  rw [List.length_append, List.map_append]
  exact k1
theorem atI_drop {w : World} {b f : Nat} {l : List Int} (h : AtI w (some ⟨b, f, none⟩) l) (k : Nat) : AtI w (some ⟨b, f + k, none⟩) (l.drop k) := by
  intro j x hj
  rw [List.getElem?_drop] at hj
  obtain ⟨b', f', e, hc⟩ := h (k + j) x hj
  cases e
  exact ⟨b, f + k, rfl, by rw [Nat.add_assoc]; exact hc⟩
theorem atI_take {w : World} {a : Option Addr} {l : List Int} (h : AtI w a l) (k : Nat) : AtI w a (l.take k) := by
  intro j x hj
  rw [List.getElem?_take] at hj
  split at hj
  · exact h j x hj
  · cases hj
theorem irow_form {B : Nat} {w : World} {v : Value} {l : List Int} (h : IRow 3 B w v l) : (v = .slice none 0 0 ∧ l = []) ∨ ∃ g c, v = .slice (some ⟨g, 0, none⟩) l.length c ∧ l.length ≤ c := by
  rcases h.2 with ⟨h1, h2⟩ | ⟨g, cap, cur, h1, _, _, h3, _⟩
  · exact .inl ⟨h1, List.eq_nil_of_length_eq_zero h2⟩
  · exact .inr ⟨g, cap, h1, h3⟩

set_option maxHeartbeats 4000000 in
theorem into_nil (n : Int) (w : World) :
    Calls Tryz.prog 67 #[.slice none 0 0, .int .i64 n] w fun e w' => ∃ v, e = .returned v ∧ IRow 3 w.heap.size w' v [n] ∧ Kept w w' := by
  go_enter Tryz.func67, Tryz.ntmps67
  go_wp2_with fail
  go_loopg [5] 0 (fun _gk i wr => i = .int .i64 0 ∧ wr = w)
  case atStart => exact ⟨rfl, rfl⟩
  case round =>
    obtain ⟨rfl, rfl⟩ := hrel
    go_wp2_with (at_builtin; first | (refine wpList_copy_int _ (by rfl) _ _ rfl wr (by rfl) wr.heap.size rfl (by rfl) none 0 0 ([] : List Int) rfl (by rfl) (fun _ => rfl) (fun j x hj => by simp at hj) (by simp) ?_; intro v4 w4 R4 t4; have HR4 : Hid (IRow 3 wr.heap.size w4 v4 ([] : List Int)) := R4; clear R4) | (refine wpList_append_int nInt _ (by rfl) _ _ rfl wr.heap.size v4 ([] : List Int) n w4 (by rfl) (by rfl) w4.heap.size rfl (by rfl) HR4.out (by simp) t4.size ?_; intro g5 c5 w5 R5 gr5 _; have t5 : Kept wr w5 := (((Turns.refl _ w4).alloc _).trans (Turns.grown gr5 (fun k e => e))).kept t4 (fun i hi => (World.ownsRow.lt HR4.out i hi).1); have HR5 : Hid (IRow 3 wr.heap.size w5 (.slice (some ⟨g5, 0, none⟩) (([] : List Int).length + 1) c5) (([] : List Int) ++ [n])) := R5; clear R5) | (refine wpList_app_nums _ (by rfl) _ _ rfl wr.heap.size (.slice (some ⟨g5, 0, none⟩) (([] : List Int).length + 1) c5) (([] : List Int) ++ [n]) (by rfl) none 0 0 ([] : List Int) rfl (by rfl) (fun _ => rfl) (fun j x hj => by simp at hj) HR5.out (by simp) (by simp) t5.size ?_; intro v6 w6 R6 t6; have k6 : Kept wr w6 := t6.kept t5 (fun i hi => (World.ownsRow.lt HR5.out i hi).1); have HR6 : Hid (IRow 3 wr.heap.size w6 v6 ((([] : List Int) ++ [n]) ++ ([] : List Int))) := R6; clear R6) | fail)
    go_ret
    exact ⟨_, rfl, HR6.out, k6⟩
set_option maxHeartbeats 8000000 in
theorem into_some (g c : Nat) (l : List Int) (n : Int) (w : World) (hA : AtI w (some ⟨g, 0, none⟩) l) (hl : l.length ≤ 100000) (hc : l.length ≤ c) :
    Calls Tryz.prog 67 #[.slice (some ⟨g, 0, none⟩) l.length c, .int .i64 n] w fun e w' => ∃ v, e = .returned v ∧ ((v = .slice (some ⟨g, 0, none⟩) l.length c ∧ intoD l n = l) ∨ IRow 3 w.heap.size w' v (intoD l n)) ∧ Kept w w' := by
  have HA : Hid (AtI w (some ⟨g, 0, none⟩) l) := hA
  clear hA
  go_enter Tryz.func67, Tryz.ntmps67
  go_wp2_with fail
  go_loopg [5] l.length (fun gk i wr => ∃ k : Nat, i = .int .i64 k ∧ k + gk = l.length ∧ Hid (∀ x ∈ l.take k, x < n) ∧ wr = w)
  case atStart => exact ⟨0, rfl, by omega, (fun x hx => by simp at hx), rfl⟩
  case round =>
    obtain ⟨k, rfl, hk, HT, hw⟩ := hrel
    subst wr
    by_cases hkl : k < l.length
    · obtain ⟨x, hx⟩ : ∃ x, l[k]? = some x := ⟨_, List.getElem?_eq_getElem hkl⟩
      have c0 : w.cell? ⟨g, k, none⟩ = some (.int .i64 x) := by
        obtain ⟨b, f, e, hc⟩ := HA.out k x hx
        cases e
        rw [Nat.zero_add] at hc
        exact hc
      have b1 : (k : Int) < (l.length : Int) := by omega
      have b2 : (0 : Int) ≤ (k : Int) := by omega
      obtain ⟨g3', rfl⟩ : ∃ g, gk = g + 1 := ⟨gk - 1, by omega⟩
      by_cases hxn : x < n
      · have HT2 : Hid (∀ y ∈ l.take (k + 1), y < n) := by
          intro y hy
          rw [List.take_add_one, hx, List.mem_append] at hy
          rcases hy with hy | hy
          · exact HT.out y hy
          · simp at hy
            omega
        clear hx HT
        go_wp2_with fail
        go_roundg g3'
        case rel => exact ⟨k + 1, by go_num, by omega, HT2, rfl⟩
        case measure => omega
      · by_cases he : x = n
        · subst he
          have HD : Hid (intoD l x = l) := by
            show _ = _
            rw [intoD_at l x k (by omega) HT.out (fun y hy => by rw [hx] at hy; cases hy; omega), if_pos hx]
          have q1 : (x == x) = true := by simp
          clear hx HT
          go_wp2_with fail
          go_ret
          exact ⟨_, rfl, .inl ⟨rfl, HD.out⟩, Kept.refl w⟩
        · have q1 : (x == n) = false := by simp [he]
          have hck : ¬ c = k := by omega
          have HDI : Hid (intoD l n = if l[k]? = some n then l else l.take k ++ [n] ++ l.drop k) := intoD_at l n k (by omega) HT.out (fun y hy => by rw [hx] at hy; cases hy; omega)
          obtain ⟨T, hT⟩ : ∃ T, l.take k = T := ⟨_, rfl⟩
          obtain ⟨U, hU⟩ : ∃ U, l.drop k = U := ⟨_, rfl⟩
          have HLT : Hid (k = T.length) := by show _ = _; rw [← hT, List.length_take]; omega
          have HLU : Hid (l.length - k = U.length) := by show _ = _; rw [← hU, List.length_drop]
          have HTA : Hid (AtI w (some ⟨g, 0, none⟩) T) := by show AtI _ _ _; rw [← hT]; exact atI_take HA.out k
          have HUA : Hid (∀ wx, Kept w wx → AtI wx (some ⟨g, k, none⟩) U) := by intro wx kx; rw [← hU]; exact AtI.kept (by have h := atI_drop HA.out k; rw [Nat.zero_add] at h; exact h) kx
          have HTL : Hid (T.length ≤ 1000000) := by show _ ≤ _; rw [← hT, List.length_take]; omega
          have HTL1 : Hid ((T ++ [n]).length ≤ 1000000) := by show _ ≤ _; rw [← hT, List.length_append, List.length_take]; simp; omega
          have HUL : Hid (U.length ≤ 1000000) := by show _ ≤ _; rw [← hU, List.length_drop]; omega
          have HTE : Hid (l.take k = T) := hT
          have HUE : Hid (l.drop k = U) := hU
          clear hT hU
          have HD : Hid (intoD l n = l.take k ++ [n] ++ l.drop k) := by show _ = _; rw [HDI.out, if_neg (by rw [hx]; simp [he])]
          clear hx HT HDI he
          go_wp2_with (at_builtin; first | (refine wpList_copy_int _ (by rfl) _ _ rfl w (by rfl) w.heap.size rfl (by rfl) (some ⟨g, 0, none⟩) k c T HLT.out (by rfl) (fun e => by cases e) HTA.out HTL.out ?_; intro v4 w4 R4 t4; have HR4 : Hid (IRow 3 w.heap.size w4 v4 T) := R4; clear R4) | (refine wpList_append_int nInt _ (by rfl) _ _ rfl w.heap.size v4 T n w4 (by rfl) (by rfl) w4.heap.size rfl (by rfl) HR4.out HTL.out t4.size ?_; intro g5 c5 w5 R5 gr5 _; have t5 : Kept w w5 := (((Turns.refl _ w4).alloc _).trans (Turns.grown gr5 (fun k e => e))).kept t4 (fun i hi => (World.ownsRow.lt HR4.out i hi).1); have HR5 : Hid (IRow 3 w.heap.size w5 (.slice (some ⟨g5, 0, none⟩) (T.length + 1) c5) (T ++ [n])) := R5; clear R5) | (refine wpList_app_nums _ (by rfl) _ _ rfl w.heap.size (.slice (some ⟨g5, 0, none⟩) (T.length + 1) c5) (T ++ [n]) (by rfl) (some ⟨g, k, none⟩) (l.length - k) (c - k) U HLU.out (by rfl) (fun e => by cases e) (HUA.out _ t5) HR5.out HTL1.out HUL.out t5.size ?_; intro v6 w6 R6 t6; have k6 : Kept w w6 := t6.kept t5 (fun i hi => (World.ownsRow.lt HR5.out i hi).1); have HR6 : Hid (IRow 3 w.heap.size w6 v6 ((T ++ [n]) ++ U)) := R6; clear R6) | fail)
          go_ret
          exact ⟨v6, rfl, .inr (by rw [HD.out, HTE.out, HUE.out]; exact HR6.out), k6⟩
    · obtain rfl : k = l.length := by omega
      have b1 : ¬ (l.length : Int) < (l.length : Int) := by omega
      have HD : Hid (intoD l n = l ++ [n] ++ []) := by
        show _ = _
        rw [intoD_at l n l.length (Nat.le_refl _) HT.out (fun y hy => by rw [List.getElem?_eq_none (Nat.le_refl _)] at hy; cases hy), if_neg (by rw [List.getElem?_eq_none (Nat.le_refl _)]; simp), List.take_length, List.drop_length]
      have HTL : Hid (l.length ≤ 1000000) := by show _ ≤ _; omega
      have HTL1 : Hid ((l ++ [n]).length ≤ 1000000) := by show _ ≤ _; rw [List.length_append]; simp; omega
      clear HT
      by_cases hck : c = l.length
      · subst hck
        go_wp2_with (at_builtin; first | (refine wpList_copy_int _ (by rfl) _ _ rfl w (by rfl) w.heap.size rfl (by rfl) (some ⟨g, 0, none⟩) l.length l.length l rfl (by rfl) (fun e => by cases e) HA.out HTL.out ?_; intro v4 w4 R4 t4; have HR4 : Hid (IRow 3 w.heap.size w4 v4 l) := R4; clear R4) | (refine wpList_append_int nInt _ (by rfl) _ _ rfl w.heap.size v4 l n w4 (by rfl) (by rfl) w4.heap.size rfl (by rfl) HR4.out HTL.out t4.size ?_; intro g5 c5 w5 R5 gr5 _; have t5 : Kept w w5 := (((Turns.refl _ w4).alloc _).trans (Turns.grown gr5 (fun k e => e))).kept t4 (fun i hi => (World.ownsRow.lt HR4.out i hi).1); have HR5 : Hid (IRow 3 w.heap.size w5 (.slice (some ⟨g5, 0, none⟩) (l.length + 1) c5) (l ++ [n])) := R5; clear R5) | (refine wpList_app_nums _ (by rfl) _ _ rfl w.heap.size (.slice (some ⟨g5, 0, none⟩) (l.length + 1) c5) (l ++ [n]) (by rfl) (some ⟨g, 0, none⟩) 0 0 ([] : List Int) rfl (by rfl) (fun e => by cases e) (fun j y hj => by simp at hj) HR5.out HTL1.out (by simp) t5.size ?_; intro v6 w6 R6 t6; have k6 : Kept w w6 := t6.kept t5 (fun i hi => (World.ownsRow.lt HR5.out i hi).1); have HR6 : Hid (IRow 3 w.heap.size w6 v6 ((l ++ [n]) ++ ([] : List Int))) := R6; clear R6) | fail)
        go_ret
        exact ⟨v6, rfl, .inr (by rw [HD.out]; exact HR6.out), k6⟩
      · skip
        go_wp2_with (at_builtin; first | (refine wpList_copy_int _ (by rfl) _ _ rfl w (by rfl) w.heap.size rfl (by rfl) (some ⟨g, 0, none⟩) l.length c l rfl (by rfl) (fun e => by cases e) HA.out HTL.out ?_; intro v4 w4 R4 t4; have HR4 : Hid (IRow 3 w.heap.size w4 v4 l) := R4; clear R4) | (refine wpList_append_int nInt _ (by rfl) _ _ rfl w.heap.size v4 l n w4 (by rfl) (by rfl) w4.heap.size rfl (by rfl) HR4.out HTL.out t4.size ?_; intro g5 c5 w5 R5 gr5 _; have t5 : Kept w w5 := (((Turns.refl _ w4).alloc _).trans (Turns.grown gr5 (fun k e => e))).kept t4 (fun i hi => (World.ownsRow.lt HR4.out i hi).1); have HR5 : Hid (IRow 3 w.heap.size w5 (.slice (some ⟨g5, 0, none⟩) (l.length + 1) c5) (l ++ [n])) := R5; clear R5) | (refine wpList_app_nums _ (by rfl) _ _ rfl w.heap.size (.slice (some ⟨g5, 0, none⟩) (l.length + 1) c5) (l ++ [n]) (by rfl) (some ⟨g, l.length, none⟩) 0 (c - l.length) ([] : List Int) rfl (by rfl) (fun e => by cases e) (fun j y hj => by simp at hj) HR5.out HTL1.out (by simp) t5.size ?_; intro v6 w6 R6 t6; have k6 : Kept w w6 := t6.kept t5 (fun i hi => (World.ownsRow.lt HR5.out i hi).1); have HR6 : Hid (IRow 3 w.heap.size w6 v6 ((l ++ [n]) ++ ([] : List Int))) := R6; clear R6) | fail)
        go_ret
        exact ⟨v6, rfl, .inr (by rw [HD.out]; exact HR6.out), k6⟩
/-- A number goes into a row. -/
theorem into_row (B : Nat) (v : Value) (l : List Int) (n : Int) (w : World) (h : IRow 3 B w v l) (hB : B ≤ w.heap.size) (hl : l.length ≤ 100000) :
    Calls Tryz.prog 67 #[v, .int .i64 n] w fun e w' => ∃ v', e = .returned v' ∧ IRow 3 B w' v' (intoD l n) ∧ Kept w w' := by
  rcases irow_form h with ⟨rfl, rfl⟩ | ⟨g, c, rfl, hc⟩
  · refine (into_nil n w).mono ?_
    rintro e w' ⟨v, rfl, h1, k⟩
    exact ⟨v, rfl, IRow.base h1 hB, k⟩
  · refine (into_some g c l n w (fun j x hj => ⟨g, 0, rfl, by rw [Nat.zero_add]; exact h.cell j x hj⟩) hl hc).mono ?_
    rintro e w' ⟨v, rfl, h1 | h1, k⟩
    · obtain ⟨rfl, h2⟩ := h1
      exact ⟨_, rfl, by rw [h2]; exact h.kept k, k⟩
    · exact ⟨v, rfl, IRow.base h1 hB, k⟩
set_option maxHeartbeats 4000000 in
theorem rlocks_any (a : Option Addr) (c : Nat) (p : List OpD) (w : World) (hA : AtP w a p) (hp : p.length ≤ 100000) :
    Calls Tryz.prog 54 #[.slice a p.length c] w fun e w' => ∃ v, e = .returned v ∧ IRow 3 w.heap.size w' v (locksD p) ∧ Kept w w' := by
  have HA : Hid (AtP w a p) := hA
  clear hA
  go_enter Tryz.func54, Tryz.ntmps54
  go_wp2_with fail
  go_loopg [3, 4] p.length (fun gk x3 i wr => ∃ (j : Nat) (v : Value), v = x3 ∧ i = .int .i64 j ∧ j + gk = p.length ∧ Hid (IRow 3 w.heap.size wr v (foldI (lockNs (p.take j)))) ∧ Kept w wr)
  case atStart => exact ⟨0, _, rfl, rfl, by omega, IRow.nil _ _ _, Kept.refl w⟩
  case round =>
    obtain ⟨j, v3, hx3, rfl, hj, HM, K⟩ := hrel
    subst hx3
    by_cases hjp : j < p.length
    · obtain ⟨b, f, k, n, v, wt, l, ca, cc, rfl, hpj, g0, g1, g2, g3, g4, hcc, hat, hbl, hdr⟩ := (HA.out.kept K).get j hjp
      have b1 : (j : Int) < (p.length : Int) := by omega
      have b2 : (0 : Int) ≤ (j : Int) := by omega
      have HN := lockNs_next p j _ hpj
      simp only at HN
      have hln : (foldI (lockNs (p.take j))).length ≤ 100000 := by have h1 := lockNs_len (p.take j); have h2 := foldI_len (lockNs (p.take j)); rw [List.length_take] at h1; omega
      obtain ⟨g3', rfl⟩ : ∃ g, gk = g + 1 := ⟨gk - 1, by omega⟩
      have hin := into_row w.heap.size v3 (foldI (lockNs (p.take j))) n wr HM.out K.size hln
      clear hpj hat hdr hln
      by_cases hk : k = 2
      · subst hk
        have HN2 : Hid (foldI (lockNs (p.take (j + 1))) = intoD (foldI (lockNs (p.take j))) n) := by show _ = _; rw [HN, if_pos rfl, foldI_next]
        clear HN
        go_wp2_with (first | (go_at_call 67; refine hin.mono ?_; rintro e5 w5 ⟨v5, rfl, R5, K5⟩; have HR5 : Hid (IRow 3 w.heap.size w5 v5 (foldI (lockNs (p.take (j + 1))))) := (by show IRow _ _ _ _ _; rw [HN2.out]; exact R5); clear R5) | fail)
        go_roundg g3'
        case rel => exact ⟨j + 1, _, rfl, by go_num, by omega, HR5, K.trans K5⟩
        case measure => omega
      · have q1 : (k == 2) = false := by simp [hk]
        have HN2 : Hid (foldI (lockNs (p.take (j + 1))) = foldI (lockNs (p.take j))) := by show _ = _; rw [HN, if_neg hk, List.append_nil]
        have HR5 : Hid (IRow 3 w.heap.size wr v3 (foldI (lockNs (p.take (j + 1))))) := by show IRow _ _ _ _ _; rw [HN2.out]; exact HM.out
        clear HN HN2 hin
        go_wp2_with fail
        go_roundg g3'
        case rel => exact ⟨j + 1, _, rfl, by go_num, by omega, HR5, K⟩
        case measure => omega
    · have b1 : ¬ (j : Int) < (p.length : Int) := by omega
      have HF : Hid (IRow 3 w.heap.size wr v3 (locksD p)) := by
        have h := HM.out
        rw [List.take_of_length_le (by omega), foldI_locks] at h
        exact h
      clear HM
      go_wp2_with fail
      go_ret
      exact ⟨v3, rfl, HF.out, K⟩
end Go.Proofs.YtlkbphogpbcjfaaGreatDoor
namespace Go.Proofs.YtlkbphogpbcjfaaGreatDoor
open Go.RowKit

theorem balf {d m m' : Nat} {p f : List OpD} (h : Bal d m m' p f) : Bal 0 m m' f f := by
  induction h with
  | nil => exact .nil _ _
  | one h8 h9 ht _ ih => exact .one h8 h9 ht ih
  | @loop d m m' o e b g p f h8 h9 hb _ ihb ihp =>
    have hr : ∀ n : Nat, Bal 0 m m (rep n g) (rep n g) := by
      intro n
      induction n with
      | zero => exact .nil _ _
      | succ n ih => rw [rep_succ]; exact bal_app ih ihb
    exact bal_app (hr _) ihp
def hR (lock : Int) (h : Bool) (o : OpD) : Bool := if o.kind = 2 then (if o.n = lock then true else h) else if o.kind = 3 then (if o.n = lock then false else h) else h
def nR (lock n : Int) (h : Bool) (o : OpD) : Int := if o.kind = 2 then (if o.n = lock then 0 else n) else if o.kind = 1 then (if h = true then n + o.n else n) else n
/-- What the reference's Section counts: the best, what runs now, whether the lock is held. -/
def secR (lock b n : Int) (h : Bool) : List OpD → Int
  | [] => b
  | o :: r => secR lock (if hR lock h o = true ∧ nR lock n h o > b then nR lock n h o else b) (nR lock n h o) (hR lock h o) r
theorem sg_run {lock x c : Int} {o : OpD} {r : List OpD} (h1 : o.kind = 1) : secGo lock x c (o :: r) = secGo lock x (c + o.n) r := by rw [secGo, if_pos h1]
theorem sg_lock {lock x c : Int} {o : OpD} {r : List OpD} (h1 : ¬ o.kind = 1) (h2 : o.kind = 2 ∧ o.n = lock) : secGo lock x c (o :: r) = secGo lock x 0 r := by rw [secGo, if_neg h1, if_pos h2]
theorem sg_unl {lock x c : Int} {o : OpD} {r : List OpD} (h1 : ¬ o.kind = 1) (h2 : ¬ (o.kind = 2 ∧ o.n = lock)) (h3 : o.kind = 3 ∧ o.n = lock) : secGo lock x c (o :: r) = secGo lock (max x c) c r := by rw [secGo, if_neg h1, if_neg h2, if_pos h3]
theorem sg_oth {lock x c : Int} {o : OpD} {r : List OpD} (h1 : ¬ o.kind = 1) (h2 : ¬ (o.kind = 2 ∧ o.n = lock)) (h3 : ¬ (o.kind = 3 ∧ o.n = lock)) : secGo lock x c (o :: r) = secGo lock x c r := by rw [secGo, if_neg h1, if_neg h2, if_neg h3]
theorem rsec_eq (lock : Nat) : ∀ (f : List OpD) (m : Nat) (x n c : Int), Bal 0 m 0 f f → (∀ o ∈ f, 0 ≤ o.n) → (m.testBit lock = false → secR lock x n false f = secGo lock x c f) ∧ (m.testBit lock = true → secR lock (max x c) c true f = secGo lock x c f)
  | [], m, x, n, c, h, _ => by
    cases h
    exact ⟨fun _ => rfl, fun h => by simp at h⟩
  | o :: r, m, x, n, c, h, hn => by
    cases h with
    | @one _ _ m1 _ _ _ _ h8 h9 ht hp =>
      have hn0 := hn o (by simp)
      have hnr : ∀ o ∈ r, 0 ≤ o.n := fun o ho => hn o (by simp [ho])
      obtain ⟨N, hN⟩ : ∃ N : Nat, o.n = (N : Int) := ⟨o.n.toNat, by omega⟩
      unfold takeM at ht
      rw [hN, show ((N : Int)).toNat = N from rfl] at ht
      rw [secR, secR]
      by_cases h1 : o.kind = 1
      · have q2 : ¬ o.kind = 2 := by omega
        have q3 : ¬ o.kind = 3 := by omega
        rw [if_neg q2, if_neg q3, if_neg h8, if_neg h9] at ht
        rw [sg_run h1]
        have e1 : hR lock false o = false := by simp [hR, q2, q3]
        have e2 : hR lock true o = true := by simp [hR, q2, q3]
        have e3 : nR lock n false o = n := by simp [nR, h1]
        have e4 : nR lock c true o = c + o.n := by simp [nR, h1]
        rw [e1, e2, e3, e4]
        split at ht
        · simp at ht
          subst ht
          refine ⟨fun hm => ?_, fun hm => ?_⟩
          · rw [if_neg (by simp)]
            exact (rsec_eq lock r m x n (c + o.n) hp hnr).1 hm
          · have e5 : (if true = true ∧ c + o.n > max x c then c + o.n else max x c) = max x (c + o.n) := by
              by_cases hc : c + o.n > max x c
              · rw [if_pos ⟨rfl, hc⟩]; omega
              · rw [if_neg (fun h => hc h.2)]; omega
            rw [e5]
            exact (rsec_eq lock r m x n (c + o.n) hp hnr).2 hm
        · cases ht
      · by_cases h2 : o.kind = 2
        · rw [if_pos h2] at ht
          split at ht
          · rename_i hlt
            simp at ht
            subst ht
            by_cases hl : o.n = (lock : Int)
            · obtain rfl : N = lock := by omega
              have e1 : ∀ h, hR N h o = true := fun h => by simp [hR, h2, hl]
              have e3 : ∀ z h, nR N z h o = 0 := fun z h => by simp [nR, h2, hl]
              rw [sg_lock h1 ⟨h2, hl⟩, e1, e1, e3, e3]
              refine ⟨fun hm => ?_, fun hm => ?_⟩
              · have e5 : (if true = true ∧ (0 : Int) > x then 0 else x) = max x 0 := by
                  by_cases hc : (0 : Int) > x
                  · rw [if_pos ⟨rfl, hc⟩]; omega
                  · rw [if_neg (fun h => hc h.2)]; omega
                rw [e5]
                refine (rsec_eq N r (m + 2 ^ N) x 0 0 hp hnr).2 ?_
                rw [Nat.add_comm, Nat.testBit_two_pow_add_eq, hm]
                rfl
              · rw [Nat.testBit_lt_two_pow hlt] at hm
                cases hm
            · have hne : N ≠ lock := by omega
              have e1 : ∀ h, hR lock h o = h := fun h => by simp [hR, h2, hl]
              have e3 : ∀ z h, nR lock z h o = z := fun z h => by simp [nR, h2, hl]
              rw [sg_oth h1 (fun e => hl e.2) (fun e => hl e.2), e1, e1, e3, e3]
              refine ⟨fun hm => ?_, fun hm => ?_⟩
              · rw [if_neg (by simp)]
                refine (rsec_eq lock r _ x n c hp hnr).1 ?_
                rcases Nat.lt_or_gt_of_ne hne with hlt2 | hgt
                · refine Nat.testBit_lt_two_pow ?_
                  have : 2 ^ (N + 1) ≤ 2 ^ lock := Nat.pow_le_pow_right (by omega) hlt2
                  rw [Nat.pow_succ] at this
                  omega
                · rw [Nat.add_comm, Nat.testBit_two_pow_add_gt hgt]
                  exact hm
              · rw [if_neg (fun h => by have := h.2; omega)]
                refine (rsec_eq lock r _ x n c hp hnr).2 ?_
                rcases Nat.lt_or_gt_of_ne hne with hlt2 | hgt
                · exfalso
                  have : 2 ^ N ≤ 2 ^ lock := Nat.pow_le_pow_right (by omega) (by omega)
                  rw [Nat.testBit_lt_two_pow (by omega)] at hm
                  cases hm
                · rw [Nat.add_comm, Nat.testBit_two_pow_add_gt hgt]
                  exact hm
          · cases ht
        · rw [if_neg h2] at ht
          by_cases h3 : o.kind = 3
          · rw [if_pos h3] at ht
            split at ht
            · rename_i hlt
              simp at ht
              obtain ⟨y, rfl⟩ : ∃ y, m = 2 ^ N + y := ⟨m - 2 ^ N, by omega⟩
              have hy : y < 2 ^ N := by omega
              have e0 : m1 = y := by omega
              subst e0
              by_cases hl : o.n = (lock : Int)
              · obtain rfl : N = lock := by omega
                have e1 : ∀ h, hR N h o = false := fun h => by simp [hR, h3, hl]
                have e3 : ∀ z h, nR N z h o = z := fun z h => by simp [nR, h3]
                rw [sg_unl h1 (fun e => h2 e.1) ⟨h3, hl⟩, e1, e1, e3, e3]
                refine ⟨fun hm => ?_, fun hm => ?_⟩
                · rw [Nat.testBit_two_pow_add_eq, Nat.testBit_lt_two_pow hy] at hm
                  cases hm
                · rw [if_neg (by simp)]
                  exact (rsec_eq N r m1 (max x c) c c hp hnr).1 (Nat.testBit_lt_two_pow hy)
              · have hne : N ≠ lock := by omega
                have e1 : ∀ h, hR lock h o = h := fun h => by simp [hR, h3, hl]
                have e3 : ∀ z h, nR lock z h o = z := fun z h => by simp [nR, h3]
                rw [sg_oth h1 (fun e => hl e.2) (fun e => hl e.2), e1, e1, e3, e3]
                refine ⟨fun hm => ?_, fun hm => ?_⟩
                · rw [if_neg (by simp)]
                  refine (rsec_eq lock r _ x n c hp hnr).1 ?_
                  rcases Nat.lt_or_gt_of_ne hne with hlt2 | hgt
                  · refine Nat.testBit_lt_two_pow ?_
                    have : 2 ^ N ≤ 2 ^ lock := Nat.pow_le_pow_right (by omega) (by omega)
                    omega
                  · rw [Nat.testBit_two_pow_add_gt hgt] at hm
                    exact hm
                · rw [if_neg (fun h => by have := h.2; omega)]
                  refine (rsec_eq lock r _ x n c hp hnr).2 ?_
                  rcases Nat.lt_or_gt_of_ne hne with hlt2 | hgt
                  · exfalso
                    have : 2 ^ (N + 1) ≤ 2 ^ lock := Nat.pow_le_pow_right (by omega) hlt2
                    rw [Nat.pow_succ] at this
                    rw [Nat.testBit_lt_two_pow (by omega)] at hm
                    cases hm
                  · rw [Nat.testBit_two_pow_add_gt hgt] at hm
                    exact hm
            · cases ht
          · rw [if_neg h3, if_neg h8, if_neg h9] at ht
            have e1 : ∀ h, hR lock h o = h := fun h => by simp [hR, h2, h3]
            have e3 : ∀ z h, nR lock z h o = z := fun z h => by simp [nR, h1, h2]
            rw [sg_oth h1 (fun e => h2 e.1) (fun e => h3 e.1), e1, e1, e3, e3]
            split at ht
            · simp at ht
              subst ht
              refine ⟨fun hm => ?_, fun hm => ?_⟩
              · rw [if_neg (by simp)]
                exact (rsec_eq lock r m x n c hp hnr).1 hm
              · rw [if_neg (fun h => by have := h.2; omega)]
                exact (rsec_eq lock r m x n c hp hnr).2 hm
            · cases ht
theorem rsec_less (lock : Int) (hl : lock < 0) : ∀ (f : List OpD) (x n c : Int), (∀ o ∈ f, 0 ≤ o.n) → secR lock x n false f = secGo lock x c f
  | [], _, _, _, _ => rfl
  | o :: r, x, n, c, hn => by
    have hn0 := hn o (by simp)
    have hnr : ∀ o ∈ r, 0 ≤ o.n := fun o ho => hn o (by simp [ho])
    have hne : ¬ o.n = lock := by omega
    have e1 : hR lock false o = false := by unfold hR; simp [hne]
    rw [secR, e1, if_neg (by simp)]
    by_cases h1 : o.kind = 1
    · rw [sg_run h1]
      exact rsec_less lock hl r x _ _ hnr
    · rw [sg_oth h1 (fun e => hne e.2) (fun e => hne e.2)]
      exact rsec_less lock hl r x _ _ hnr
theorem rsec_all (lock : Int) {f : List OpD} (h : Bal 0 0 0 f f) (hn : ∀ o ∈ f, 0 ≤ o.n) : secR lock 0 0 false f = secGo lock 0 0 f := by
  by_cases hl : lock < 0
  · exact rsec_less lock hl f 0 0 0 hn
  · obtain ⟨N, rfl⟩ : ∃ N : Nat, lock = (N : Int) := ⟨lock.toNat, by omega⟩
    exact (rsec_eq N f 0 0 0 0 h hn).1 (by simp)

set_option maxHeartbeats 8000000 in
theorem rsection_any (a : Option Addr) (c : Nat) (p f : List OpD) (lock : Int) (w : World) (hA : AtP w a p) (hcap : p.length ≤ c) (hk : checkP p = (0, 0)) (hb : Bal 3 0 0 p f) :
    Calls Tryz.prog 55 #[.slice a p.length c, .int .i64 lock] w fun e w' => e = .returned (.int .i64 (secGo lock 0 0 f)) ∧ Kept w w' := by
  obtain ⟨h48, hc, _, _⟩ := taken_prog hk
  have HFC : Hid (∀ o ∈ f, checkD o = 0) := fun o ho => hc o (bal_mem hb o ho).1
  have hfl : (f.length : Int) ≤ 512 := by
    have h1 := steps_len hb hc
    obtain ⟨_, _, _, f', hf', hl'⟩ := taken_prog hk
    have h2 := steps_len hf' hc
    omega
  have HAL : Hid (secR lock 0 0 false f = secGo lock 0 0 f) := rsec_all lock (balf hb) (fun o ho => op_pos (HFC.out o ho))
  have hfa := rflat_any 3 0 0 p f a c w hb hA hcap hc (by omega) (by omega)
  have HA0 : Hid (AtP w a p) := hA
  clear hA hc hk hb
  go_enter Tryz.func55, Tryz.ntmps55
  go_wp2_with fail
  refine hfa.mono ?_
  rintro e w1 ⟨v, rfl, R, K1⟩
  obtain ⟨fa, fc, hv, _, hat0⟩ := R.view HA0.out K1
  subst hv
  have HA1 : Hid (AtP w1 fa f) := hat0
  clear R hat0 hfa
  go_wp2_with fail
  go_loopg [6, 7, 8, 9] f.length (fun gk bs ns hs i wr => ∃ (j : Nat) (bv nv : Int) (hv : Bool), i = .int .i64 j ∧ bs = .int .i64 bv ∧ ns = .int .i64 nv ∧ hs = .bool hv ∧ j + gk = f.length ∧ 0 ≤ bv ∧ bv ≤ 1000 * (j : Int) ∧ 0 ≤ nv ∧ nv ≤ 1000 * (j : Int) ∧ (hv = true → nv ≤ bv) ∧ Hid (secR lock 0 0 false f = secR lock bv nv hv (f.drop j)) ∧ Kept w1 wr)
  case atStart => exact ⟨0, 0, 0, false, rfl, rfl, rfl, rfl, by omega, by omega, by omega, by omega, by omega, (fun h => by cases h), (by show _ = _; rw [List.drop_zero]), Kept.refl _⟩
  case round =>
    obtain ⟨j, bv, nv, hv, rfl, rfl, rfl, rfl, hj, hb0, hb1, hn0, hn1, hb2, HE, KB⟩ := hrel
    by_cases hjp : j < f.length
    · obtain ⟨b, f0, k, n, v, wt, l, ca, cc, rfl, hpj, g0, g1, g2, g3, g4, hcc, hat, hbl, hdr⟩ := (HA1.out.kept KB).get j hjp
      have b1 : (j : Int) < (f.length : Int) := by omega
      have b2 : (0 : Int) ≤ (j : Int) := by omega
      have HCK : Hid (checkD ⟨k, n, v, wt, l⟩ = 0) := HFC.out _ (List.mem_of_getElem? hpj)
      have HE2 : Hid (secR lock 0 0 false f = secR lock bv nv hv (⟨k, n, v, wt, l⟩ :: f.drop (j + 1))) := by show _ = _; rw [HE.out, hdr]
      obtain ⟨g3', rfl⟩ : ∃ g, gk = g + 1 := ⟨gk - 1, by omega⟩
      clear hpj hat hdr HE
      by_cases h2 : k = 2
      · subst h2
        by_cases hl : n = lock
        · have hlb : (n == lock) = true := beq_iff_eq.2 hl
          have hng : ¬ (0 : Int) > bv := by omega
          cases hv with
          | true =>
            have HE3 : Hid (secR lock 0 0 false f = secR lock (bv) (0) true (f.drop (j + 1))) := by show _ = _; rw [HE2.out, secR]; simp [hR, nR, hl, show ¬ bv < 0 by omega]
            clear HE2
            go_wp2_with fail
            go_roundg g3'
            case rel => exact ⟨j + 1, bv, 0, true, by go_num, rfl, rfl, rfl, by omega, by omega, by omega, by omega, by omega, (by simp <;> omega), HE3, KB⟩
            case measure => omega
          | false =>
            have HE3 : Hid (secR lock 0 0 false f = secR lock (bv) (0) true (f.drop (j + 1))) := by show _ = _; rw [HE2.out, secR]; simp [hR, nR, hl, show ¬ bv < 0 by omega]
            clear HE2
            go_wp2_with fail
            go_roundg g3'
            case rel => exact ⟨j + 1, bv, 0, true, by go_num, rfl, rfl, rfl, by omega, by omega, by omega, by omega, by omega, (by simp <;> omega), HE3, KB⟩
            case measure => omega
        · have hlb : (n == lock) = false := beq_eq_false_iff_ne.2 hl
          cases hv with
          | true =>
            have hle := hb2 rfl
            have hng : ¬ nv > bv := by omega
            have HE3 : Hid (secR lock 0 0 false f = secR lock (bv) (nv) true (f.drop (j + 1))) := by show _ = _; rw [HE2.out, secR]; simp [hR, nR, hl, hng]
            clear HE2
            go_wp2_with fail
            go_roundg g3'
            case rel => exact ⟨j + 1, bv, nv, true, by go_num, rfl, rfl, rfl, by omega, by omega, by omega, by omega, by omega, (by simp <;> omega), HE3, KB⟩
            case measure => omega
          | false =>
            have HE3 : Hid (secR lock 0 0 false f = secR lock (bv) (nv) false (f.drop (j + 1))) := by show _ = _; rw [HE2.out, secR]; simp [hR, nR, hl]
            clear HE2
            go_wp2_with fail
            go_roundg g3'
            case rel => exact ⟨j + 1, bv, nv, false, by go_num, rfl, rfl, rfl, by omega, by omega, by omega, by omega, by omega, (by simp <;> omega), HE3, KB⟩
            case measure => omega
      · have k2 : (k == 2) = false := beq_eq_false_iff_ne.2 h2
        by_cases h3 : k = 3
        · subst h3
          by_cases hl : n = lock
          · have hlb : (n == lock) = true := beq_iff_eq.2 hl
            cases hv with
            | true =>
              have HE3 : Hid (secR lock 0 0 false f = secR lock (bv) (nv) false (f.drop (j + 1))) := by show _ = _; rw [HE2.out, secR]; simp [hR, nR, hl]
              clear HE2
              go_wp2_with fail
              go_roundg g3'
              case rel => exact ⟨j + 1, bv, nv, false, by go_num, rfl, rfl, rfl, by omega, by omega, by omega, by omega, by omega, (by simp <;> omega), HE3, KB⟩
              case measure => omega
            | false =>
              have HE3 : Hid (secR lock 0 0 false f = secR lock (bv) (nv) false (f.drop (j + 1))) := by show _ = _; rw [HE2.out, secR]; simp [hR, nR, hl]
              clear HE2
              go_wp2_with fail
              go_roundg g3'
              case rel => exact ⟨j + 1, bv, nv, false, by go_num, rfl, rfl, rfl, by omega, by omega, by omega, by omega, by omega, (by simp <;> omega), HE3, KB⟩
              case measure => omega
          · have hlb : (n == lock) = false := beq_eq_false_iff_ne.2 hl
            cases hv with
            | true =>
              have hle := hb2 rfl
              have hng : ¬ nv > bv := by omega
              have HE3 : Hid (secR lock 0 0 false f = secR lock (bv) (nv) true (f.drop (j + 1))) := by show _ = _; rw [HE2.out, secR]; simp [hR, nR, hl, hng]
              clear HE2
              go_wp2_with fail
              go_roundg g3'
              case rel => exact ⟨j + 1, bv, nv, true, by go_num, rfl, rfl, rfl, by omega, by omega, by omega, by omega, by omega, (by simp <;> omega), HE3, KB⟩
              case measure => omega
            | false =>
              have HE3 : Hid (secR lock 0 0 false f = secR lock (bv) (nv) false (f.drop (j + 1))) := by show _ = _; rw [HE2.out, secR]; simp [hR, nR, hl]
              clear HE2
              go_wp2_with fail
              go_roundg g3'
              case rel => exact ⟨j + 1, bv, nv, false, by go_num, rfl, rfl, rfl, by omega, by omega, by omega, by omega, by omega, (by simp <;> omega), HE3, KB⟩
              case measure => omega
        · have k3 : (k == 3) = false := beq_eq_false_iff_ne.2 h3
          by_cases h1 : k = 1
          · subst h1
            obtain ⟨hr1, hr2⟩ := run_n HCK.out
            cases hv with
            | true =>
              have hs1 : nv + n ≤ 600000 := by omega
              have hs0 : 0 ≤ nv + n := by omega
              by_cases hgt : nv + n > bv
              · skip
                have HE3 : Hid (secR lock 0 0 false f = secR lock (nv + n) (nv + n) true (f.drop (j + 1))) := by show _ = _; rw [HE2.out, secR]; simp [hR, nR, show bv < nv + n by omega]
                clear HE2
                go_wp2_with fail
                go_roundg g3'
                case rel => exact ⟨j + 1, nv + n, nv + n, true, by go_num, by go_num, by go_num, rfl, by omega, by omega, by omega, by omega, by omega, (by simp <;> omega), HE3, KB⟩
                case measure => omega
              · skip
                have HE3 : Hid (secR lock 0 0 false f = secR lock (bv) (nv + n) true (f.drop (j + 1))) := by show _ = _; rw [HE2.out, secR]; simp [hR, nR, show ¬ bv < nv + n by omega]
                clear HE2
                go_wp2_with fail
                go_roundg g3'
                case rel => exact ⟨j + 1, bv, nv + n, true, by go_num, rfl, by go_num, rfl, by omega, by omega, by omega, by omega, by omega, (by simp <;> omega), HE3, KB⟩
                case measure => omega
            | false =>
              have HE3 : Hid (secR lock 0 0 false f = secR lock (bv) (nv) false (f.drop (j + 1))) := by show _ = _; rw [HE2.out, secR]; simp [hR, nR]
              clear HE2
              go_wp2_with fail
              go_roundg g3'
              case rel => exact ⟨j + 1, bv, nv, false, by go_num, rfl, rfl, rfl, by omega, by omega, by omega, by omega, by omega, (by simp <;> omega), HE3, KB⟩
              case measure => omega
          · have k1 : (k == 1) = false := beq_eq_false_iff_ne.2 h1
            cases hv with
            | true =>
              have hle := hb2 rfl
              have hng : ¬ nv > bv := by omega
              have HE3 : Hid (secR lock 0 0 false f = secR lock (bv) (nv) true (f.drop (j + 1))) := by show _ = _; rw [HE2.out, secR]; simp [hR, nR, h1, h2, h3, hng]
              clear HE2
              go_wp2_with fail
              go_roundg g3'
              case rel => exact ⟨j + 1, bv, nv, true, by go_num, rfl, rfl, rfl, by omega, by omega, by omega, by omega, by omega, (by simp <;> omega), HE3, KB⟩
              case measure => omega
            | false =>
              have HE3 : Hid (secR lock 0 0 false f = secR lock (bv) (nv) false (f.drop (j + 1))) := by show _ = _; rw [HE2.out, secR]; simp [hR, nR, h1, h2, h3]
              clear HE2
              go_wp2_with fail
              go_roundg g3'
              case rel => exact ⟨j + 1, bv, nv, false, by go_num, rfl, rfl, rfl, by omega, by omega, by omega, by omega, by omega, (by simp <;> omega), HE3, KB⟩
              case measure => omega
    · have b1 : ¬ (j : Int) < (f.length : Int) := by omega
      have HE3 : Hid (secGo lock 0 0 f = bv) := by show _ = _; rw [← HAL.out, HE.out, List.drop_eq_nil_of_le (by omega)]; rfl
      go_wp2_with fail
      go_ret
      rw [HE3.out]
      exact ⟨rfl, K1.trans KB⟩
end Go.Proofs.YtlkbphogpbcjfaaGreatDoor
namespace Go.Proofs.YtlkbphogpbcjfaaGreatDoor
open Go.RowKit

theorem rneed_any (nm : List UInt8) (pd dl bu : Int) (pr : List OpD) (pa : Option Addr) (pc : Nat) (w : World) (hA : AtP w pa pr) (hcap : pr.length ≤ pc) (hk : checkP pr = (0, 0)) :
    Calls Tryz.prog 10 #[.agg #[.string (B nm), .int .i64 pd, .int .i64 dl, .int .i64 bu, .slice pa pr.length pc]] w fun e w' => e = .returned (.int .i64 (min (costD pr) bu)) ∧ Kept w w' := by
  have K0 := (Kept.refl w).alloc (.cells #[.string (B nm), .int .i64 pd, .int .i64 dl, .int .i64 bu, .slice pa pr.length pc] 43)
  have HB : Hid (Box w.heap.size (w.alloc (.cells #[.string (B nm), .int .i64 pd, .int .i64 dl, .int .i64 bu, .slice pa pr.length pc] 43)) 43 w.heap.size [.string (B nm), .int .i64 pd, .int .i64 dl, .int .i64 bu, .slice pa pr.length pc]) := box_new w.heap.size w 43 [.string (B nm), .int .i64 pd, .int .i64 dl, .int .i64 bu, .slice pa pr.length pc] (Nat.le_refl _) (by simp)
  have hco := rcost_any pa pc pr _ (hA.kept K0) hcap hk
  obtain ⟨z, hz⟩ : ∃ z, costD pr = z := ⟨_, rfl⟩
  rw [hz] at hco
  rw [hz]
  go_enter Tryz.func10, Tryz.ntmps10
  go_wp2_with fail
  refine hco.mono ?_
  rintro e w2 ⟨rfl, t2⟩
  have s3 : w2.cell? ⟨w.heap.size, 3, none⟩ = some (.int .i64 bu) := (HB.out.kept t2).cell 3 (by simp)
  by_cases h : bu < z
  · have HM : Hid (min z bu = bu) := by show _ = _; omega
    go_wp2_with fail
    go_ret
    rw [HM.out]
    exact ⟨rfl, K0.trans t2⟩
  · have HM : Hid (min z bu = z) := by show _ = _; omega
    go_wp2_with fail
    go_ret
    rw [HM.out]
    exact ⟨rfl, K0.trans t2⟩
namespace Go.Proofs.YtlkbphogpbcjfaaGreatDoor
open Go.RowKit
end Go.Proofs.YtlkbphogpbcjfaaGreatDoor
