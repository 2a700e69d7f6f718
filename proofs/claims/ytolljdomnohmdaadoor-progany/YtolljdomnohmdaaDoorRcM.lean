/- The reference's rows of numbers and of open loops; alike. -/
import Derived.Test.YtolljdomnohmdaaDoorRcp
import Derived.Test.YtolljdomnohmdaaDoorInts
namespace Go.Proofs.YtolljdomnohmdaaDoor
open Go.RowKit

theorem irow_at {e : TypeId} {B : Nat} {w : World} {a : Option Addr} {n c : Nat} {l : List Int} (h : IRow e B w (.slice a n c) l) : AtI w a l := by
  intro j x hj
  have hjl := (List.getElem?_eq_some_iff.1 hj).1
  obtain ⟨g, c9, e9, _, _, _⟩ := h.some (by omega)
  have e1 := (Value.slice.inj e9).1
  subst e1
  have e2 := (Value.slice.inj e9).2.1
  subst e2
  exact ⟨g, 0, rfl, by rw [Nat.zero_add]; exact h.cell j x hj⟩
/-- What a slice of numbers shows, apart from a row of the call's own. -/
def LAt (w : World) (v : Value) (a : Option Addr) (l : List Int) : Prop := ∀ (j : Nat) (x : Int), l[j]? = some x → ∃ b f, a = some ⟨b, f, none⟩ ∧ w.cell? ⟨b, f + j, none⟩ = some (.int .i64 x) ∧ v.ownBlock ≠ some b
theorem LAt.at {w : World} {v : Value} {a : Option Addr} {l : List Int} (h : LAt w v a l) : AtI w a l := fun j x hj => by
  obtain ⟨b, f, e, hc, _⟩ := h j x hj
  exact ⟨b, f, e, hc⟩
theorem LAt.kept {w w' : World} {v : Value} {a : Option Addr} {l : List Int} (h : LAt w v a l) (t : Kept w w') : LAt w' v a l := fun j x hj => by
  obtain ⟨b, f, e, hc, hn⟩ := h j x hj
  exact ⟨b, f, e, t.cell hc, hn⟩
theorem LAt.grow {W w' : World} {v : Value} {a : Option Addr} {l : List Int} {g n c : Nat} (h : LAt W v a l) (t : Turns (fun k => v.ownBlock = some k) W w') (hg : v.ownBlock = some g ∨ W.heap.size < g) : LAt w' (.slice (some ⟨g, 0, none⟩) n c) a l := fun j x hj => by
  obtain ⟨b, f, e, hc, hn⟩ := h j x hj
  have hlt := cell_lt hc
  refine ⟨b, f, e, t.cell hc hlt hn, fun e2 => ?_⟩
  simp [Value.ownBlock] at e2
  subst e2
  rcases hg with h1 | h1
  · exact hn h1
  · simp only at hlt; omega
theorem LAt.short {w : World} {g n n' c c' : Nat} {a : Option Addr} {l : List Int} (h : LAt w (.slice (some ⟨g, 0, none⟩) n c) a l) : LAt w (.slice (some ⟨g, 0, none⟩) n' c') a l := h
theorem LAt.nil (w : World) (v : Value) (a : Option Addr) : LAt w v a [] := fun j x hj => by simp at hj
theorem LAt.fresh {e : TypeId} {B : Nat} {w : World} {v : Value} {a : Option Addr} {n c : Nat} {l : List Int} (h : IRow e B w (.slice a n c) l) (hv : ∀ q, v.ownBlock = some q → q < B) : LAt w v a l := fun j x hj => by
  obtain ⟨b, f, e1, hc⟩ := irow_at h j x hj
  have hjl := (List.getElem?_eq_some_iff.1 hj).1
  obtain ⟨g, c9, e9, _, h3, _⟩ := h.some (by omega)
  have e2 := (Value.slice.inj e9).1
  rw [e1] at e2
  cases e2
  exact ⟨_, _, e1, hc, fun e3 => by have := hv _ e3; omega⟩
/-- Numbers copied behind an empty row of the call's own. -/
theorem wpList_copy_int (w : World) {ops : Array Oper} {rest : List Oper} {o : Oper} {a : Act} {Q : Exit → Act → World → Prop} (hw : Region.wanted o (yielded ops a.tmps) = true) (s x : Operand)
    (ho : o.op = .call { callee := .builtin .append, args := #[s, x], argTypes := #[42, 42] }) (W : World) (hw1 : w = W.alloc (.cells #[] 3)) (nb : Nat) (hnb : nb = W.heap.size) (hs : a.eval s = .slice (some ⟨nb, 0, none⟩) 0 0) (ca : Option Addr) (n cc : Nat) (l : List Int) (hln : n = l.length) (hx : a.eval x = .slice ca n cc) (hn : ca = none → cc = 0) (hA : AtI W ca l) (hl : l.length ≤ 1000000)
    (h : ∀ v w', IRow 3 W.heap.size w' v l → Kept W w' → wpList Tryd.prog ops Q rest (a.put o.dst v) w') : wpList Tryd.prog ops Q (o :: rest) a w := by
  subst hw1
  subst hnb
  subst hln
  refine wpList_step fun K hK => ?_
  rw [if_pos hw]
  obtain ⟨i, hi, hz0, hz1, hz2⟩ := info_parts nInt.inf
  have h0 : (W.alloc (.cells #[] 3)).ownsRow W.heap.size 3 1 (.slice (some ⟨W.heap.size, 0, none⟩) 0 0) 0 [] := by
    have := World.ownsRow_lit (base := W.heap.size) (e := 3) (size := 1) W #[] 0 (Nat.le_refl _) (by unfold maxLen; omega) (by simp)
    simpa using this
  have KA : Kept W (W.alloc (.cells #[] 3)) := (Kept.refl W).alloc _
  cases ca with
  | none =>
    have hl0 : l = [] := by
      cases l with
      | nil => rfl
      | cons c r =>
        obtain ⟨b, f, e, _⟩ := hA 0 c rfl
        cases e
    subst hl0
    have hc0 := hn rfl
    subst hc0
    have hrun := run_append_owned_none (P := Tryd.prog) (W.alloc (.cells #[] 3)) W.heap.size 42 o.type 3 i 1 nInt.und hi (.slice (some ⟨W.heap.size, 0, none⟩) 0 0) 0 [] h0
    unfold Oper.wp
    simp [execOp, ho, resolve, invoke, builtin, hs, hx, hrun, Result.andThen]
    exact hK _ _ (h _ _ h0 KA)
  | some ad =>
    have hsrc : ∀ j u, (l.map intV)[j]? = some u → (W.alloc (.cells #[] 3)).cell? (Addr.add ad j) = some u := by
      intro j u hu
      rw [List.getElem?_map] at hu
      cases hj : l[j]? with
      | none => rw [hj] at hu; simp at hu
      | some y =>
        rw [hj] at hu
        simp at hu
        subst hu
        obtain ⟨b, f, e, hc⟩ := hA j y hj
        cases e
        rw [Addr.add_lit]
        exact KA.cell hc
    obtain ⟨v', w', hr, k1, k2, k3, k4⟩ := run_append_own_at (P := Tryd.prog) (W.alloc (.cells #[] 3)) W.heap.size 42 o.type 3 i _ 1 8 nInt.und hi hz0 hz1 hz2 rfl (by omega) (.slice (some ⟨W.heap.size, 0, none⟩) 0 0) 0 [] h0 ad l.length cc (l.map intV) (by simp) hsrc (int_ones l) (by unfold maxLen; omega) (by omega) (le_alloc _ (Nat.le_refl _))
    unfold Oper.wp
    simp [execOp, ho, resolve, invoke, builtin, hs, hx, hr, Result.andThen]
    refine hK _ _ (h v' w' ?_ ?_)
    · unfold IRow
      simpa using k1
    · exact (Turns.grown (S := fun k => k = W.heap.size) k2 (fun k e => by simp [Value.ownBlock] at e; omega)).kept KA (fun i hi => by omega)
/-- An open loop as it lies. -/
structure Fr where
  a : Option Addr
  c : Nat
  h : List Int
  N : Int
  was : Int
def frV (f : Fr) : List Value := [.slice f.a f.h.length f.c, .int .i64 f.N, .int .i64 f.was]
def flatF (fs : List Fr) : List Value := fs.flatMap frV
theorem flatF_len (fs : List Fr) : (flatF fs).length = fs.length * 3 := by
  induction fs with
  | nil => rfl
  | cons x r ih => simp only [flatF, List.flatMap_cons, List.length_append, List.length_cons] at *; simp [frV, ih]; omega
theorem flatF_get : ∀ (fs : List Fr) (j i : Nat) (f : Fr), fs[j]? = some f → i < 3 → (flatF fs)[j * 3 + i]? = (frV f)[i]?
  | [], _, _, _, h, _ => by simp at h
  | x :: r, 0, i, e, h, hi => by
    simp at h
    subst h
    simp only [flatF, List.flatMap_cons]
    rw [List.getElem?_append_left (by simp [frV]; omega)]
    simp
  | x :: r, j + 1, i, e, h, hi => by
    simp only [flatF, List.flatMap_cons]
    rw [List.getElem?_append_right (by simp [frV]; omega)]
    have := flatF_get r j i e (by simpa using h) hi
    rw [show (j + 1) * 3 + i - (frV x).length = j * 3 + i by simp [frV]; omega]
    exact this
def FRow (Bd : Nat) (w : World) (v : Value) (fs : List Fr) : Prop := w.ownsRow Bd 86 3 v fs.length (flatF fs)
theorem FRow.nil (Bd : Nat) (w : World) : FRow Bd w (.slice none 0 0) [] := World.ownsRow_nil _ _ _ _
theorem FRow.kept {Bd : Nat} {w w' : World} {v : Value} {fs : List Fr} (h : FRow Bd w v fs) (t : Kept w w') : FRow Bd w' v fs := own_kept h t
theorem infoF : (Tryd.prog.info? 86).map (fun i => (i.zero, i.size, i.bytes)) = some (some (.agg #[.slice none 0 0, .int .i64 0, .int .i64 0]), 3, 40) := by kernel_rfl
/-- One open loop behind a row of them. -/
theorem wpList_append_fr (w : World) {ops : Array Oper} {rest : List Oper} {o : Oper} {a : Act} {Q : Exit → Act → World → Prop} (hw : Region.wanted o (yielded ops a.tmps) = true) (s x : Operand)
    (ho : o.op = .call { callee := .builtin .append, args := #[s, x], argTypes := #[84, 84] })
    (Bd : Nat) (v1 : Value) (l : List Fr) (c : Fr) (W : World) (cells : Array Value) (hcells : cells = (frV c).toArray) (hw1 : w = W.alloc (.cells cells 86)) (hs : a.eval s = v1) (nb : Nat) (hnb : nb = W.heap.size) (hx : a.eval x = .slice (some ⟨nb, 0, none⟩) 1 1)
    (h1 : FRow Bd W v1 l) (hl : l.length ≤ 1000000) (hB : Bd ≤ W.heap.size)
    (h : ∀ g cap w', FRow Bd w' (.slice (some ⟨g, 0, none⟩) (l.length + 1) cap) (l ++ [c]) → Turns (fun k => v1.ownBlock = some k) W w' → (v1.ownBlock = some g ∨ W.heap.size < g) → wpList Tryd.prog ops Q rest (a.put o.dst (.slice (some ⟨g, 0, none⟩) (l.length + 1) cap)) w') :
    wpList Tryd.prog ops Q (o :: rest) a w := by
  subst hw1
  subst hnb
  refine wpList_step fun K hK => ?_
  rw [if_pos hw]
  obtain ⟨i, hi, hz0, hz1, hz2⟩ := info_parts infoF
  have hcc : ∀ j u, (frV c)[j]? = some u → (W.alloc (.cells cells 86)).cell? (Addr.add ⟨W.heap.size, 0, none⟩ j) = some u := by
    intro j u hu
    rw [Addr.add_lit, Nat.zero_add, World.cell?_alloc_at _ _ _ _ rfl, hcells]
    simpa using hu
  have h1' : (W.alloc (.cells cells 86)).ownsRow Bd 86 3 v1 l.length (flatF l) := World.ownsRow.alloc h1 _
  have hB' := le_alloc (.cells cells 86) hB
  obtain ⟨v', w', hr, k1, k2, k3, k4⟩ := run_append_own_at (P := Tryd.prog) (W.alloc (.cells cells 86)) Bd 84 o.type 86 i _ 3 40 Tryd.underlying84 hi hz0 hz1 hz2 rfl (by omega) _ l.length (flatF l) h1' ⟨W.heap.size, 0, none⟩ 1 1 (frV c) (by simp [frV]) hcc (fun u hu => by simp [frV] at hu; rcases hu with rfl | rfl | rfl <;> rfl) (by unfold maxLen; omega) (by omega) hB'
  obtain ⟨g, cap, rfl⟩ := own_form k1 (fun e => by have := k3.1 e; have := this.2; omega)
  have t : Turns (fun k => v1.ownBlock = some k) W w' := ((Turns.refl _ W).alloc _).trans (Turns.grown k2 (fun k e => e))
  have hg : v1.ownBlock = some g ∨ W.heap.size < g := by
    rcases k4 with k4 | k4
    · exact .inl k4.symm
    · right; simp [Value.ownBlock] at k4; omega
  unfold Oper.wp
  simp [execOp, ho, resolve, invoke, builtin, hs, hx, hr, Result.andThen]
  refine hK _ _ (h g cap w' ?_ t hg)
  unfold FRow
  rw [List.length_append, show flatF (l ++ [c]) = flatF l ++ frV c by simp [flatF]]
  exact k1

set_option maxHeartbeats 2000000 in
theorem alike_any (a b : Option Addr) (c d : Nat) (l m : List Int) (w : World) (hA : AtI w a l) (hB : AtI w b m) (hl : l.length ≤ 100000) (_hml : m.length ≤ 100000) :
    Calls Tryd.prog 45 #[.slice a l.length c, .slice b m.length d] w fun e w' => e = .returned (.bool (decide (l = m))) ∧ Kept w w' := by
  have HA : Hid (AtI w a l) := hA
  have HB : Hid (AtI w b m) := hB
  clear hA hB
  by_cases hlm : l.length = m.length
  · have hne : ((l.length : Int) != (m.length : Int)) = false := by simp [hlm]
    go_enter Tryd.func45, Tryd.ntmps45
    go_wp2_with fail
    go_loopg [5] l.length (fun gk i wr => ∃ j : Nat, i = .int .i64 j ∧ j + gk = l.length ∧ Hid (l.take j = m.take j) ∧ Kept w wr)
    case atStart => exact ⟨0, rfl, by omega, (by show _ = _; simp), Kept.refl w⟩
    case round =>
      obtain ⟨j, rfl, hj, HE, K⟩ := hrel
      by_cases hjp : j < l.length
      · obtain ⟨x, hx⟩ : ∃ x, l[j]? = some x := ⟨_, List.getElem?_eq_getElem hjp⟩
        obtain ⟨y, hy⟩ : ∃ y, m[j]? = some y := ⟨_, List.getElem?_eq_getElem (by omega)⟩
        obtain ⟨b1, f1, rfl, c1⟩ := (HA.out.kept K) j x hx
        obtain ⟨b2, f2, rfl, c2⟩ := (HB.out.kept K) j y hy
        have r1 : (j : Int) < (l.length : Int) := by omega
        have r2 : (j : Int) < (m.length : Int) := by omega
        have r3 : (0 : Int) ≤ (j : Int) := by omega
        obtain ⟨g3', rfl⟩ : ∃ g, gk = g + 1 := ⟨gk - 1, by omega⟩
        by_cases hxy : x = y
        · subst hxy
          have hq : (x != x) = false := by simp
          have HE2 : Hid (l.take (j + 1) = m.take (j + 1)) := by show _ = _; rw [List.take_add_one, List.take_add_one, hx, hy, HE.out]
          clear hx hy HE
          go_wp2_with fail
          go_region_held3 (fun w' => w'.cell? ⟨b1, f1 + j, none⟩ = some (.int .i64 x) ∧ w'.cell? ⟨b2, f2 + j, none⟩ = some (.int .i64 x)) (go_keep) (fail)
          go_wp2_with fail
          go_roundg g3'
          case rel => exact ⟨j + 1, by go_num, by omega, HE2, K.drew⟩
          case measure => omega
        · have hq : (x != y) = true := by simp [hxy]
          have HD : Hid (decide (l = m) = false) := by
            refine decide_eq_false (fun e => hxy ?_)
            rw [e, hy] at hx
            exact (Option.some.inj hx).symm
          clear hx hy HE hxy
          go_wp2_with fail
          go_region_held3 (fun w' => w'.cell? ⟨b1, f1 + j, none⟩ = some (.int .i64 x) ∧ w'.cell? ⟨b2, f2 + j, none⟩ = some (.int .i64 y)) (go_keep) (fail)
          go_wp2_with fail
          go_ret
          rw [HD.out]
          exact ⟨rfl, K.drew⟩
      · have r1 : ¬ (j : Int) < (l.length : Int) := by omega
        have HD : Hid (decide (l = m) = true) := by
          refine decide_eq_true ?_
          have h := HE.out
          rw [List.take_of_length_le (by omega), List.take_of_length_le (by omega)] at h
          exact h
        go_wp2_with fail
        go_ret
        rw [HD.out]
        exact ⟨rfl, K⟩
  · have hne : ((l.length : Int) != (m.length : Int)) = true := by simp; omega
    have HD : Hid (decide (l = m) = false) := decide_eq_false (fun e => hlm (by rw [e]))
    go_enter Tryd.func45, Tryd.ntmps45
    go_wp2_with fail
    go_ret
    rw [HD.out]
    exact ⟨rfl, Kept.refl w⟩
end Go.Proofs.YtolljdomnohmdaaDoor
