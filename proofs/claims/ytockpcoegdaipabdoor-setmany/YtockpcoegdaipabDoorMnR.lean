/- Rows of channels; a program that grows. -/
import Derived.Test.YtockpcoegdaipabDoorManP
import Derived.Test.YtockpcoegdaipabDoorApp4
namespace Go.Proofs.YtockpcoegdaipabDoor
open Go.RowKit

theorem orow_of {Bd : Nat} {w : World} {v : Value} {p : List OpD} (h : w.ownsRow Bd 32 5 v p.length (flatO p (nils p))) (hp : ∀ o ∈ p, o.cases = []) : ORow Bd w v p (nils p) := by
  refine ⟨by simp [nils], h, fun j o s hj hs => ?_⟩
  have hs2 : s = .slice none 0 0 := by
    unfold nils at hs
    rw [List.getElem?_map, hj] at hs
    exact (Option.some.inj hs).symm
  rw [hs2, hp o (List.mem_of_getElem? hj)]
  exact ⟨CRow.nil _ _ _, fun q hq => by simp [Value.ownBlock] at hq⟩
theorem atp_own {Bd : Nat} {w : World} {g c : Nat} {p : List OpD} (h : w.ownsRow Bd 32 5 (.slice (some ⟨g, 0, none⟩) p.length c) p.length (flatO p (nils p))) (hp : ∀ o ∈ p, o.cases = []) : p.length ≤ c ∧ AtP w (some ⟨g, 0, none⟩) p := by
  obtain ⟨a9, c9, e9, hc9, _, h9⟩ := (orow_of h hp).view
  have ea := (Value.slice.inj e9).1
  have ec := (Value.slice.inj e9).2.2
  subst ea
  subst ec
  exact ⟨hc9, h9⟩
/-- Written ops behind a program, at one operation of a region. -/
theorem step_append_lits (w : World) {ops : Array Oper} {o : Oper} {a : Act} {K : Act → World → Prop} {Q : Exit → Act → World → Prop} {E : Prop} (hgd : o.guard = none) (s x : Operand)
    (ho : o.op = .call { callee := .builtin .append, args := #[s, x], argTypes := #[33, 33] })
    (Bd : Nat) (v1 : Value) (p : List OpD) (qs : List OpD) (_hqs : ∀ o ∈ qs, o.cases = []) (hq1 : 1 ≤ qs.length) (cells : Array Value) (hcells : cells = (flatO qs (nils qs)).toArray) (W : World) (hw1 : w = W.alloc (.cells cells 32)) (hs : a.eval s = v1) (nb : Nat) (hnb : nb = W.heap.size) (k : Nat) (hk : k = qs.length) (hx : a.eval x = .slice (some ⟨nb, 0, none⟩) k k)
    (h1 : W.ownsRow Bd 32 5 v1 p.length (flatO p (nils p))) (hl : p.length + qs.length ≤ 1000000) (hB : Bd ≤ W.heap.size)
    (h : ∀ g cap w', w'.ownsRow Bd 32 5 (.slice (some ⟨g, 0, none⟩) (p ++ qs).length cap) (p ++ qs).length (flatO (p ++ qs) (nils (p ++ qs))) → Turns (fun k => v1.ownBlock = some k) W w' → (v1.ownBlock = some g ∨ W.heap.size < g) → K (a.put o.dst (.slice (some ⟨g, 0, none⟩) (p ++ qs).length cap)) w') :
    if Region.wanted o (yielded ops a.tmps) = true then Oper.wp Tryd.prog o a w K Q else E := by
  have hw : Region.wanted o (yielded ops a.tmps) = true := by simp [Region.wanted, hgd]
  rw [if_pos hw]
  subst hw1
  subst hnb
  subst hk
  obtain ⟨i, hi, hz0, hz1, hz2⟩ := info_parts infoO
  have hnl : (nils qs).length = qs.length := by simp [nils]
  have hpl : (nils p).length = p.length := by simp [nils]
  have hcc : ∀ j u, (flatO qs (nils qs))[j]? = some u → (W.alloc (.cells cells 32)).cell? (Addr.add ⟨W.heap.size, 0, none⟩ j) = some u := by
    intro j u hu
    rw [Addr.add_lit, Nat.zero_add, World.cell?_alloc_at _ _ _ _ rfl, hcells]
    simpa using hu
  have h1' : (W.alloc (.cells cells 32)).ownsRow Bd 32 5 v1 p.length (flatO p (nils p)) := World.ownsRow.alloc h1 _
  have hB' := le_alloc (.cells cells 32) hB
  obtain ⟨v', w', hr, k1, k2, k3, k4⟩ := run_append_own_at (P := Tryd.prog) (W.alloc (.cells cells 32)) Bd 33 o.type 32 i _ 5 56 Tryd.underlying33 hi hz0 hz1 hz2 rfl (by omega) _ p.length (flatO p (nils p)) h1' ⟨W.heap.size, 0, none⟩ qs.length qs.length (flatO qs (nils qs)) (flatO_len _ _ hnl) hcc (flatO_one _ _ (fun s hs => by simp [nils] at hs; rw [← hs.2]; rfl)) (by unfold maxLen; omega) (by omega) hB'
  obtain ⟨g, cap, rfl⟩ := own_form k1 (fun e => by have := k3.1 e; have := this.2; omega)
  have t : Turns (fun k => v1.ownBlock = some k) W w' := ((Turns.refl _ W).alloc _).trans (Turns.grown k2 (fun k e => e))
  have hg : v1.ownBlock = some g ∨ W.heap.size < g := by
    rcases k4 with k4 | k4
    · exact .inl k4.symm
    · right; simp [Value.ownBlock] at k4; omega
  have hlen : (p ++ qs).length = p.length + qs.length := List.length_append
  unfold Oper.wp
  simp [execOp, ho, resolve, invoke, builtin, hs, hx, hr, Result.andThen]
  rw [← hlen]
  refine h g cap w' ?_ t hg
  rw [hlen, ← nils_app, flatO_app p _ _ _ hpl]
  exact k1
def chV (c : ChanD) : List Value := [.int .i64 c.room, .int .i64 c.server]
def flatH (l : List ChanD) : List Value := l.flatMap chV
theorem flatH_get : ∀ (l : List ChanD) (j i : Nat) (c : ChanD), l[j]? = some c → i < 2 → (flatH l)[j * 2 + i]? = (chV c)[i]?
  | [], _, _, _, h, _ => by simp at h
  | x :: r, 0, i, e, h, hi => by
    simp at h
    subst h
    simp only [flatH, List.flatMap_cons]
    rw [List.getElem?_append_left (by simp [chV]; omega)]
    simp
  | x :: r, j + 1, i, e, h, hi => by
    simp only [flatH, List.flatMap_cons]
    rw [List.getElem?_append_right (by simp [chV]; omega)]
    have := flatH_get r j i e (by simpa using h) hi
    rw [show (j + 1) * 2 + i - (chV x).length = j * 2 + i by simp [chV]; omega]
    exact this
/-- A row of channels of the call's own. -/
def HRow (Bd : Nat) (w : World) (v : Value) (l : List ChanD) : Prop := w.ownsRow Bd 28 2 v l.length (flatH l)
theorem HRow.view {Bd : Nat} {w : World} {v : Value} {l : List ChanD} (h : HRow Bd w v l) : ∃ a c, v = .slice a l.length c ∧ AtH w a l := by
  rcases h.2 with ⟨h1, h2⟩ | ⟨g, cap, cur, h1, _, _, h3, _⟩
  · refine ⟨none, 0, by rw [h1, h2], ?_⟩
    rw [List.eq_nil_of_length_eq_zero h2]
    exact AtH.nil _ _
  · refine ⟨some ⟨g, 0, none⟩, cap, h1, ?_⟩
    intro j c hj
    have hjl := (List.getElem?_eq_some_iff.1 hj).1
    have hrow := h
    unfold HRow at hrow
    rw [h1] at hrow
    have hc : ∀ i, i < 2 → w.cell? ⟨g, 0 + j * 2 + i, none⟩ = (chV c)[i]? := by
      intro i hi
      rw [Nat.zero_add, hrow.cellAt (j * 2 + i) (by omega), flatH_get l j i c hj hi]
    exact ⟨g, 0, rfl, hc 0 (by omega), hc 1 (by omega)⟩
theorem infoH : (Tryd.prog.info? 28).map (fun i => (i.zero, i.size, i.bytes)) = some (some (.agg #[.int .i64 0, .int .i64 0]), 2, 16) := by kernel_rfl
/-- One channel behind a row of channels. -/
theorem wpList_append_chan (w : World) {ops : Array Oper} {rest : List Oper} {o : Oper} {a : Act} {Q : Exit → Act → World → Prop} (hw : Region.wanted o (yielded ops a.tmps) = true) (s x : Operand)
    (ho : o.op = .call { callee := .builtin .append, args := #[s, x], argTypes := #[23, 23] })
    (Bd : Nat) (v1 : Value) (l : List ChanD) (c : ChanD) (W : World) (cells : Array Value) (hcells : cells = (chV c).toArray) (hw1 : w = W.alloc (.cells cells 28)) (hs : a.eval s = v1) (nb : Nat) (hnb : nb = W.heap.size) (hx : a.eval x = .slice (some ⟨nb, 0, none⟩) 1 1)
    (h1 : HRow Bd W v1 l) (hl : l.length ≤ 1000000) (hB : Bd ≤ W.heap.size)
    (h : ∀ g cap w', HRow Bd w' (.slice (some ⟨g, 0, none⟩) (l.length + 1) cap) (l ++ [c]) → Turns (fun k => v1.ownBlock = some k) W w' → (v1.ownBlock = some g ∨ W.heap.size < g) → wpList Tryd.prog ops Q rest (a.put o.dst (.slice (some ⟨g, 0, none⟩) (l.length + 1) cap)) w') :
    wpList Tryd.prog ops Q (o :: rest) a w := by
  subst hw1
  subst hnb
  refine wpList_step fun K hK => ?_
  rw [if_pos hw]
  obtain ⟨i, hi, hz0, hz1, hz2⟩ := info_parts infoH
  have hcc : ∀ j u, (chV c)[j]? = some u → (W.alloc (.cells cells 28)).cell? (Addr.add ⟨W.heap.size, 0, none⟩ j) = some u := by
    intro j u hu
    rw [Addr.add_lit, Nat.zero_add, World.cell?_alloc_at _ _ _ _ rfl, hcells]
    simpa using hu
  have h1' : (W.alloc (.cells cells 28)).ownsRow Bd 28 2 v1 l.length (flatH l) := World.ownsRow.alloc h1 _
  have hB' := le_alloc (.cells cells 28) hB
  obtain ⟨v', w', hr, k1, k2, k3, k4⟩ := run_append_own_at (P := Tryd.prog) (W.alloc (.cells cells 28)) Bd 23 o.type 28 i _ 2 16 Tryd.underlying23 hi hz0 hz1 hz2 rfl (by omega) _ l.length (flatH l) h1' ⟨W.heap.size, 0, none⟩ 1 1 (chV c) (by simp [chV]) hcc (fun u hu => by simp [chV] at hu; rcases hu with rfl | rfl <;> rfl) (by unfold maxLen; omega) (by omega) hB'
  obtain ⟨g, cap, rfl⟩ := own_form k1 (fun e => by have := k3.1 e; have := this.2; omega)
  have t : Turns (fun k => v1.ownBlock = some k) W w' := ((Turns.refl _ W).alloc _).trans (Turns.grown k2 (fun k e => e))
  have hg : v1.ownBlock = some g ∨ W.heap.size < g := by
    rcases k4 with k4 | k4
    · exact .inl k4.symm
    · right; simp [Value.ownBlock] at k4; omega
  unfold Oper.wp
  simp [execOp, ho, resolve, invoke, builtin, hs, hx, hr, Result.andThen]
  refine hK _ _ (h g cap w' ?_ t hg)
  unfold HRow
  rw [List.length_append, show flatH (l ++ [c]) = flatH l ++ chV c by simp [flatH]]
  exact k1
theorem conv1 (w : World) (j : Nat) (hj : j ≤ 20) : (convert 29 9 (.slice (some ⟨w.heap.size, 0, none⟩) 1 1)).run Tryd.prog (w.alloc (.cells #[.int .u8 (97 + (j : Int))] 5)) = .ok (.string (B (nm1 j))) (w.alloc (.cells #[.int .u8 (97 + (j : Int))] 5)) := by
  refine run_convert_bytes_back (P := Tryd.prog) _ 29 9 5 ⟨w.heap.size, 0, none⟩ 1 (nm1 j) Tryd.underlying29 Tryd.underlying5 Tryd.underlying9 ?_
  intro i hi
  rw [Addr.add_lit, Nat.zero_add, World.cell?_alloc_at _ _ _ _ rfl]
  match i, hi with
  | 0, _ =>
    simp [nm1]
    omega
end Go.Proofs.YtockpcoegdaipabDoor
