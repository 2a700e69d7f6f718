/- A row of tasks of the call's own; one more behind it. -/
import Derived.Test.YtcfgcbjhlamchaaOrK
import Derived.Test.YtcfgcbjhlamchaaHld
namespace Go.Proofs.Ytcfgcbjhlamchaa
open Go.RowKit Go.Sort

def nm1 (i : Nat) : List UInt8 := [UInt8.ofNat (97 + i)]
def tkV (P : Int) (e : List UInt8 × Int × Nat) : List Value := [.string (B e.1), .int .i64 P, .int .i64 e.2.1, .int .i64 1, .slice (some ⟨e.2.2, 0, none⟩) 1 1]
def flatQ (P : Int) (es : List (List UInt8 × Int × Nat)) : List Value := es.flatMap (tkV P)
theorem flatQ_get (P : Int) : ∀ (l : List (List UInt8 × Int × Nat)) (j i : Nat) (c : List UInt8 × Int × Nat), l[j]? = some c → i < 5 → (flatQ P l)[j * 5 + i]? = (tkV P c)[i]?
  | [], _, _, _, h, _ => by simp at h
  | x :: r, 0, i, e, h, hi => by
    simp at h
    subst h
    simp only [flatQ, List.flatMap_cons]
    rw [List.getElem?_append_left (by simp [tkV]; omega)]
    simp
  | x :: r, j + 1, i, e, h, hi => by
    simp only [flatQ, List.flatMap_cons]
    rw [List.getElem?_append_right (by simp [tkV]; omega)]
    have := flatQ_get P r j i e (by simpa using h) hi
    rw [show (j + 1) * 5 + i - (tkV P x).length = j * 5 + i by simp [tkV]; omega]
    exact this
def QRow (P : Int) (Bd : Nat) (w : World) (v : Value) (es : List (List UInt8 × Int × Nat)) : Prop := w.ownsRow Bd 48 5 v es.length (flatQ P es)
theorem QRow.turns {P : Int} {S : Nat → Prop} {Bd : Nat} {w w' : World} {v : Value} {l : List (List UInt8 × Int × Nat)} (h : QRow P Bd w v l) (t : Turns S w w') (hv : ∀ q, v.ownBlock = some q → ¬ S q) : QRow P Bd w' v l := owns_turns h t hv
theorem QRow.kept {P : Int} {Bd : Nat} {w w' : World} {v : Value} {l : List (List UInt8 × Int × Nat)} (h : QRow P Bd w v l) (t : Kept w w') : QRow P Bd w' v l := own_kept h t
def dlOf (es : List (List UInt8 × Int × Nat)) (j : Nat) : Int := match es[j]? with
  | some e => e.2.1
  | none => 0
theorem dlOf_old {es : List (List UInt8 × Int × Nat)} {e : List UInt8 × Int × Nat} {j : Nat} (h : j < es.length) : dlOf (es ++ [e]) j = dlOf es j := by
  unfold dlOf
  rw [List.getElem?_append_left h]
theorem dlOf_new {es : List (List UInt8 × Int × Nat)} {e : List UInt8 × Int × Nat} : dlOf (es ++ [e]) es.length = e.2.1 := by
  unfold dlOf
  rw [List.getElem?_append_right (Nat.le_refl _), Nat.sub_self]
  rfl
theorem qrow_at {P : Int} {Bd : Nat} {w : World} {g n c : Nat} {es : List (List UInt8 × Int × Nat)} (h : QRow P Bd w (.slice (some ⟨g, 0, none⟩) n c) es) (hn : es.length = n) : AtD w (some ⟨g, 0, none⟩) n (dlOf es) := by
  subst hn
  intro j hj
  refine ⟨g, 0, rfl, ?_⟩
  have hg := List.getElem?_eq_getElem hj
  unfold QRow at h
  rw [Nat.zero_add, h.cellAt (j * 5 + 2) (by omega), flatQ_get P es j 2 _ hg (by omega)]
  unfold dlOf
  rw [hg]
  rfl
theorem infoT : (Try.prog.info? 48).map (fun i => (i.zero, i.size, i.bytes)) = some (some (.agg #[.string ⟨#[]⟩, .int .i64 0, .int .i64 0, .int .i64 0, .slice none 0 0]), 5, 64) := by kernel_rfl
/-- One task behind a row of tasks, at one operation of a region. -/
theorem step_append_task (w : World) {ops : Array Oper} {o : Oper} {a : Act} {K : Act → World → Prop} {Q : Exit → Act → World → Prop} {E : Prop} (hgd : o.guard = none) (s x : Operand)
    (ho : o.op = .call { callee := .builtin .append, args := #[s, x], argTypes := #[31, 31] })
    (Bd : Nat) (v1 : Value) (P : Int) (es : List (List UInt8 × Int × Nat)) (e : List UInt8 × Int × Nat) (cells : Array Value) (hcells : cells = (tkV P e).toArray) (W : World) (hw1 : w = W.alloc (.cells cells 48)) (hs : a.eval s = v1) (nb : Nat) (hnb : nb = W.heap.size) (hx : a.eval x = .slice (some ⟨nb, 0, none⟩) 1 1)
    (h1 : QRow P Bd W v1 es) (hl : es.length ≤ 1000000) (hB : Bd ≤ W.heap.size)
    (h : ∀ g cap w', QRow P Bd w' (.slice (some ⟨g, 0, none⟩) (es.length + 1) cap) (es ++ [e]) → Turns (fun k => v1.ownBlock = some k) W w' → (v1.ownBlock = some g ∨ W.heap.size < g) → K (a.put o.dst (.slice (some ⟨g, 0, none⟩) (es.length + 1) cap)) w') :
    if Region.wanted o (yielded ops a.tmps) = true then Oper.wp Try.prog o a w K Q else E := by
  have hw : Region.wanted o (yielded ops a.tmps) = true := by simp [Region.wanted, hgd]
  rw [if_pos hw]
  subst hw1
  subst hnb
  obtain ⟨i, hi, hz0, hz1, hz2⟩ := info_parts infoT
  have hcc : ∀ j u, (tkV P e)[j]? = some u → (W.alloc (.cells cells 48)).cell? (Addr.add ⟨W.heap.size, 0, none⟩ j) = some u := by
    intro j u hu
    rw [Addr.add_lit, Nat.zero_add, World.cell?_alloc_at _ _ _ _ rfl, hcells]
    simpa using hu
  have h1' : (W.alloc (.cells cells 48)).ownsRow Bd 48 5 v1 es.length (flatQ P es) := World.ownsRow.alloc h1 _
  have hB' := le_alloc (.cells cells 48) hB
  obtain ⟨v', w', hr, k1, k2, k3, k4⟩ := run_append_own_at (P := Try.prog) (W.alloc (.cells cells 48)) Bd 31 o.type 48 i _ 5 64 Try.underlying31 hi hz0 hz1 hz2 rfl (by omega) _ es.length (flatQ P es) h1' ⟨W.heap.size, 0, none⟩ 1 1 (tkV P e) (by simp [tkV]) hcc (fun u hu => by simp [tkV] at hu; rcases hu with rfl | rfl | rfl | rfl | rfl <;> rfl) (by unfold maxLen; omega) (by omega) hB'
  obtain ⟨g, cap, rfl⟩ := own_form k1 (fun e => by have := k3.1 e; have := this.2; omega)
  have t : Turns (fun k => v1.ownBlock = some k) W w' := ((Turns.refl _ W).alloc _).trans (Turns.grown k2 (fun k e => e))
  have hg : v1.ownBlock = some g ∨ W.heap.size < g := by
    rcases k4 with k4 | k4
    · exact .inl k4.symm
    · right; simp [Value.ownBlock] at k4; omega
  unfold Oper.wp
  simp [execOp, ho, resolve, invoke, builtin, hs, hx, hr, Result.andThen]
  refine h g cap w' ?_ t hg
  unfold QRow
  rw [List.length_append, show flatQ P (es ++ [e]) = flatQ P es ++ tkV P e by simp [flatQ]]
  exact k1
theorem conv_at (w : World) (b j : Nat) (hj : j ≤ 20) (h : w.cell? ⟨b, 0, none⟩ = some (.int .u8 (97 + (j : Int)))) : (convert 42 9 (.slice (some ⟨b, 0, none⟩) 1 1)).run Try.prog w = .ok (.string (B (nm1 j))) w := by
  refine run_convert_bytes_back (P := Try.prog) _ 42 9 5 ⟨b, 0, none⟩ 1 (nm1 j) Try.underlying42 Try.underlying5 Try.underlying9 ?_
  intro i hi
  rw [Addr.add_lit, Nat.zero_add]
  match i, hi with
  | 0, _ =>
    rw [h]
    simp [nm1]
    omega
/-- What a slice of bytes that came in shows. -/
def U8s (w : World) (a : Option Addr) (n : Nat) (Z : List Int) : Prop := ∀ j, j < n → ∃ b f, a = some ⟨b, f, none⟩ ∧ w.cell? ⟨b, f + j, none⟩ = some (.int .u8 (Z.getD j 0)) ∧ 0 ≤ Z.getD j 0 ∧ Z.getD j 0 ≤ 255
theorem rank_bef {n : Nat} {D : Nat → Int} {R : List Nat} (h : RowOk n D R) {q j : Nat} (hq : q < n) (hj : j < n) : rank n D q < rank n D j ↔ bef D q j := by
  constructor
  · intro hlt
    exact h.before hlt (h.at hq) (h.at hj)
  · intro hb
    rcases Nat.lt_trichotomy (rank n D q) (rank n D j) with hh | hh | hh
    · exact hh
    · have h1 := h.at hq
      rw [hh, h.at hj] at h1
      obtain rfl := Option.some.inj h1
      unfold bef at hb
      omega
    · have := h.before hh (h.at hj) (h.at hq)
      unfold bef at *
      omega
theorem rank_inj {n : Nat} {D : Nat → Int} {R : List Nat} (h : RowOk n D R) {q j : Nat} (hq : q < n) (hj : j < n) (he : rank n D q = rank n D j) : q = j := by
  have h1 := h.at hq
  rw [he, h.at hj] at h1
  exact (Option.some.inj h1).symm
theorem row_ex (n : Nat) (D : Nat → Int) (h1 : 1 ≤ n) : ∃ R, RowOk n D R := by
  haveI : Inhabited (Fin n) := ⟨⟨0, by omega⟩⟩
  obtain ⟨R, hR, _⟩ := sort_ok n D
  exact ⟨R, hR⟩
theorem prD_get {n : Nat} {D : Nat → Int} {j : Nat} (hj : j < n) : (prD n D)[j]? = some ((n : Int) - (rank n D j : Int)) := by
  rw [List.getElem?_eq_getElem (by rw [prD_len]; exact hj)]
  simp [prD]
end Go.Proofs.Ytcfgcbjhlamchaa
