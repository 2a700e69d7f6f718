/- Rows of channels and of tasks that the call owns; one more behind one. -/
import Derived.Test.YtolljdomnohmdaaGreatDoorM2
import Derived.Test.YtolljdomnohmdaaGreatDoorCas
import Derived.Test.YtolljdomnohmdaaGreatDoorCheck
import Derived.Test.YtolljdomnohmdaaGreatDoorM3
import Derived.Test.YtolljdomnohmdaaGreatDoorM4
import Derived.Test.YtolljdomnohmdaaGreatDoorM0
import Derived.Test.YtolljdomnohmdaaGreatDoorM5
import Derived.Test.YtolljdomnohmdaaGreatDoorOpO
import Derived.Test.YtolljdomnohmdaaGreatDoorM1
import Derived.Test.YtolljdomnohmdaaGreatDoorOpT
import Derived.Test.YtolljdomnohmdaaGreatDoorPar
import Derived.Test.YtolljdomnohmdaaGreatDoorM6
import Derived.Test.YtolljdomnohmdaaGreatDoorM8
import Derived.Test.YtolljdomnohmdaaGreatDoorTxt
import Derived.Test.YtolljdomnohmdaaGreatDoorRWrd
import Derived.Test.YtolljdomnohmdaaGreatDoorRead
import Derived.Test.YtolljdomnohmdaaGreatDoorM9
import Derived.Test.YtolljdomnohmdaaGreatDoorTrn
import Derived.Test.YtolljdomnohmdaaGreatDoorM18
import Derived.Test.YtolljdomnohmdaaGreatDoorM14
namespace Go.Proofs.YtolljdomnohmdaaGreatDoor
open Go.RowKit

def hkV (c : ChanD) : List Value := [.int .i64 c.room, .int .i64 c.server]
def flatH (cs : List ChanD) : List Value := cs.flatMap hkV
theorem flatH_get : ∀ (l : List ChanD) (j i : Nat) (c : ChanD), l[j]? = some c → i < 2 → (flatH l)[j * 2 + i]? = (hkV c)[i]?
  | [], _, _, _, h, _ => by simp at h
  | x :: r, 0, i, e, h, hi => by
    simp at h
    subst h
    simp only [flatH, List.flatMap_cons]
    rw [List.getElem?_append_left (by simp [hkV]; omega)]
    simp
  | x :: r, j + 1, i, e, h, hi => by
    simp only [flatH, List.flatMap_cons]
    rw [List.getElem?_append_right (by simp [hkV]; omega)]
    have := flatH_get r j i e (by simpa using h) hi
    rw [show (j + 1) * 2 + i - (hkV x).length = j * 2 + i by simp [hkV]; omega]
    exact this
def HRow (Bd : Nat) (w : World) (v : Value) (cs : List ChanD) : Prop := w.ownsRow Bd 62 2 v cs.length (flatH cs)
theorem HRow.kept {Bd : Nat} {w w' : World} {v : Value} {l : List ChanD} (h : HRow Bd w v l) (t : Kept w w') : HRow Bd w' v l := own_kept h t
theorem HRow.turns {S : Nat → Prop} {Bd : Nat} {w w' : World} {v : Value} {l : List ChanD} (h : HRow Bd w v l) (t : Turns S w w') (hv : ∀ q, v.ownBlock = some q → ¬ S q) : HRow Bd w' v l := owns_turns h t hv
theorem AtH.turns {S : Nat → Prop} {w w' : World} {a : Option Addr} {cs : List ChanD} (h : AtH w a cs) (t : Turns S w w') (hs : ∀ b f, a = some ⟨b, f, none⟩ → ¬ S b) : AtH w' a cs := by
  intro j c hj
  obtain ⟨b, f, e, h1, h2⟩ := h j c hj
  exact ⟨b, f, e, t.cell h1 (cell_lt h1) (hs b f e), t.cell h2 (cell_lt h2) (hs b f e)⟩
theorem HRow.view {Bd : Nat} {w : World} {v : Value} {cs : List ChanD} (h : HRow Bd w v cs) : ∃ a c, v = .slice a cs.length c ∧ AtH w a cs ∧ (∀ b f, a = some ⟨b, f, none⟩ → Bd ≤ b ∧ v.ownBlock = some b) := by
  rcases h.2 with ⟨h1, h2⟩ | ⟨g, cap, cur, h1, hb, _⟩
  · refine ⟨none, 0, by rw [h1, h2], ?_, fun b f e => by cases e⟩
    rw [List.eq_nil_of_length_eq_zero h2]
    exact AtH.nil _ _
  · refine ⟨some ⟨g, 0, none⟩, cap, h1, ?_, fun b f e => by cases e; exact ⟨hb, by rw [h1]; rfl⟩⟩
    subst h1
    intro j c hj
    have hj2 := (List.getElem?_eq_some_iff.1 hj).1
    unfold HRow at h
    refine ⟨g, 0, rfl, ?_, ?_⟩
    · rw [Nat.zero_add, show j * 2 = j * 2 + 0 from rfl, h.cellAt (j * 2 + 0) (by omega), flatH_get cs j 0 c hj (by omega)]
      rfl
    · rw [Nat.zero_add, h.cellAt (j * 2 + 1) (by omega), flatH_get cs j 1 c hj (by omega)]
      rfl
def tkW (t : TaskD) (pv : Value) : List Value := [.string (B t.name), .int .i64 t.period, .int .i64 t.deadline, .int .i64 t.budget, pv]
def flatT : List TaskD → List Value → List Value
  | t :: p, pv :: r => tkW t pv ++ flatT p r
  | _, _ => []
theorem flatT_append : ∀ (p : List TaskD) (r : List Value) (t : TaskD) (pv : Value), r.length = p.length → flatT (p ++ [t]) (r ++ [pv]) = flatT p r ++ tkW t pv
  | [], [], t, pv, _ => by simp [flatT]
  | [], _ :: _, _, _, h => by simp at h
  | _ :: _, [], _, _, h => by simp at h
  | q :: p, x :: r, t, pv, h => by
    simp only [List.cons_append, flatT]
    rw [flatT_append p r t pv (by simpa using h)]
    simp
theorem flatT_get : ∀ (p : List TaskD) (r : List Value) (j i : Nat) (t : TaskD) (pv : Value), p[j]? = some t → r[j]? = some pv → i < 5 → (flatT p r)[j * 5 + i]? = (tkW t pv)[i]?
  | [], _, _, _, _, _, h, _, _ => by simp at h
  | _ :: _, [], _, _, _, _, _, h, _ => by simp at h
  | q :: p, x :: r, 0, i, t, pv, h1, h2, hi => by
    simp at h1 h2
    subst h1 h2
    simp only [flatT, Nat.zero_mul, Nat.zero_add]
    rw [List.getElem?_append_left (by simp [tkW]; omega)]
  | q :: p, x :: r, j + 1, i, t, pv, h1, h2, hi => by
    simp only [flatT]
    rw [List.getElem?_append_right (by simp [tkW]; omega)]
    have := flatT_get p r j i t pv (by simpa using h1) (by simpa using h2) hi
    rw [show (j + 1) * 5 + i - (tkW q x).length = j * 5 + i by simp [tkW]; omega, this]
/-- What a call may turn that has such a row, and two blocks more, one behind the other. -/
def ownB (v : Value) (ob : Nat) (k : Nat) : Prop := v.ownBlock = some k ∨ k = ob ∨ k + 1 = ob
/-- A row of tasks that the call owns, each with a program that stays as it is while the row grows. -/
structure TRow (Bd ob : Nat) (w : World) (v : Value) (ts : List TaskD) (pvs : List Value) : Prop where
  len : pvs.length = ts.length
  row : w.ownsRow Bd 66 5 v ts.length (flatT ts pvs)
  pg : ∀ (j : Nat) (t : TaskD) (pv : Value), ts[j]? = some t → pvs[j]? = some pv → ∃ pa pc, pv = .slice pa t.prog.length pc ∧ t.prog.length ≤ pc ∧ (pa = none → pc = 0) ∧ ∀ w', Turns (ownB v ob) w w' → AtP w' pa t.prog
theorem TRow.nil (Bd ob : Nat) (w : World) : TRow Bd ob w (.slice none 0 0) [] [] := ⟨rfl, World.ownsRow_nil _ _ _ _, fun j t pv h => by simp at h⟩
theorem TRow.kept {Bd ob : Nat} {w w' : World} {v : Value} {ts : List TaskD} {pvs : List Value} (h : TRow Bd ob w v ts pvs) (k : Kept w w') : TRow Bd ob w' v ts pvs :=
  ⟨h.len, own_kept h.row k, fun j t pv h1 h2 => by
    obtain ⟨pa, pc, e1, e2, e3, e4⟩ := h.pg j t pv h1 h2
    exact ⟨pa, pc, e1, e2, e3, fun w2 t2 => e4 w2 ((k.turns.mono (fun _ _ f => f.elim)).trans t2)⟩⟩
theorem TRow.other {Bd ob : Nat} {w w' : World} {v : Value} {ts : List TaskD} {pvs : List Value} (h : TRow Bd ob w v ts pvs) (k : Turns (fun i => i = ob) w w') (hv : v.ownBlock ≠ some ob) : TRow Bd ob w' v ts pvs :=
  ⟨h.len, owns_turns h.row k (fun q hq e => hv (by rw [hq, e])), fun j t pv h1 h2 => by
    obtain ⟨pa, pc, e1, e2, e3, e4⟩ := h.pg j t pv h1 h2
    exact ⟨pa, pc, e1, e2, e3, fun w2 t2 => e4 w2 ((k.mono (fun _ _ f => .inr (.inl f))).trans t2)⟩⟩
theorem TRow.res {Bd ob : Nat} {w w' : World} {v : Value} {ts : List TaskD} {pvs : List Value} (h : TRow Bd ob w v ts pvs) (k : Turns (fun i => i + 1 = ob) w w') (hv : ∀ q, v.ownBlock = some q → q + 1 ≠ ob) : TRow Bd ob w' v ts pvs :=
  ⟨h.len, owns_turns h.row k (fun q hq e => hv q hq e), fun j t pv h1 h2 => by
    obtain ⟨pa, pc, e1, e2, e3, e4⟩ := h.pg j t pv h1 h2
    exact ⟨pa, pc, e1, e2, e3, fun w2 t2 => e4 w2 ((k.mono (fun _ _ f => .inr (.inr f))).trans t2)⟩⟩
theorem TRow.view {Bd ob : Nat} {w : World} {v : Value} {ts : List TaskD} {pvs : List Value} (h : TRow Bd ob w v ts pvs) : ∃ a c, v = .slice a ts.length c ∧ AtT w a ts ∧ (∀ b f, a = some ⟨b, f, none⟩ → Bd ≤ b ∧ f = 0) := by
  have hrow := h.row
  rcases hrow.2 with ⟨h1, h2⟩ | ⟨g, cap, cur, h1, hb, _⟩
  · refine ⟨none, 0, by rw [h1, h2], ?_, fun b f e => by cases e⟩
    rw [List.eq_nil_of_length_eq_zero h2]
    exact AtT.nil _ _
  · refine ⟨some ⟨g, 0, none⟩, cap, h1, ?_, fun b f e => by cases e; exact ⟨hb, rfl⟩⟩
    intro j t hj
    have hj2 := (List.getElem?_eq_some_iff.1 hj).1
    obtain ⟨pv, hpv⟩ : ∃ pv, pvs[j]? = some pv := ⟨_, List.getElem?_eq_getElem (by rw [h.len]; exact hj2)⟩
    obtain ⟨pa, pc, e1, e2, e3, e4⟩ := h.pg j t pv hj hpv
    rw [h1] at hrow
    refine ⟨g, 0, rfl, ?_⟩
    have hc : ∀ i, i < 5 → w.cell? ⟨g, 0 + j * 5 + i, none⟩ = (tkW t pv)[i]? := by
      intro i hi
      rw [Nat.zero_add, hrow.cellAt (j * 5 + i) (by omega), flatT_get ts pvs j i t pv hj hpv hi]
    refine ⟨hc 0 (by omega), hc 1 (by omega), hc 2 (by omega), hc 3 (by omega), pa, pc, ?_, e2, e4 w (Turns.refl _ _)⟩
    rw [hc 4 (by omega), ← e1]
    rfl
theorem orow_turns {S : Nat → Prop} {B : Nat} {w w' : World} {v : Value} {p : List OpD} {svs : List Value} (h : ORow B w v p svs) (t : Turns S w w') (hS : ∀ k, S k → k < B) : ORow B w' v p svs :=
  ⟨h.len, owns_turns h.row t (fun q hq e => by have h1 := (World.ownsRow.lt h.row q hq).1; have h2 := hS q e; omega), fun j o sv h1 h2 =>
    ⟨owns_turns (h.cs j o sv h1 h2).1 t (fun q hq e => by have h3 := (World.ownsRow.lt (h.cs j o sv h1 h2).1 q hq).1; have h4 := hS q e; omega), (h.cs j o sv h1 h2).2⟩⟩
/-- What stays while a row grows stays while the grown one does. -/
theorem stay_next {Q : World → Prop} {v : Value} {ob g n cap : Nat} {w w5 : World} (h : ∀ w', Turns (ownB v ob) w w' → Q w') (t : Turns (fun k => v.ownBlock = some k) w w5) (hg : v.ownBlock = some g ∨ w.heap.size ≤ g) : ∀ w', Turns (ownB (.slice (some ⟨g, 0, none⟩) n cap) ob) w5 w' → Q w' := by
  intro w' k
  refine h w' ?_
  refine (t.mono (fun _ _ e => .inl e)).next k ?_
  intro i hi hk
  rcases hk with hk | hk
  · simp [Value.ownBlock] at hk
    rcases hg with hg | hg
    · left; rw [hg, hk]
    · omega
  · exact .inr hk
theorem infoH : (Tryz.prog.info? 62).map (fun i => (i.zero, i.size, i.bytes)) = some (some (.agg #[.int .i64 0, .int .i64 0]), 2, 16) := by kernel_rfl
theorem infoTk : (Tryz.prog.info? 66).map (fun i => (i.zero, i.size, i.bytes)) = some (some (.agg #[.string ⟨#[]⟩, .int .i64 0, .int .i64 0, .int .i64 0, .slice none 0 0]), 5, 64) := by kernel_rfl
/-- One channel behind a row of channels, at one operation of a region. -/
theorem step_append_chan (w : World) {ops : Array Oper} {o : Oper} {a : Act} {K : Act → World → Prop} {Q : Exit → Act → World → Prop} {E : Prop} (hgd : o.guard = none) (s x : Operand)
    (ho : o.op = .call { callee := .builtin .append, args := #[s, x], argTypes := #[31, 31] })
    (Bd : Nat) (v1 : Value) (es : List ChanD) (e : ChanD) (cells : Array Value) (hcells : cells = (hkV e).toArray) (W : World) (hw1 : w = W.alloc (.cells cells 62)) (hs : a.eval s = v1) (nb : Nat) (hnb : nb = W.heap.size) (hx : a.eval x = .slice (some ⟨nb, 0, none⟩) 1 1)
    (h1 : HRow Bd W v1 es) (hl : es.length ≤ 1000000) (hB : Bd ≤ W.heap.size)
    (h : ∀ g cap w', HRow Bd w' (.slice (some ⟨g, 0, none⟩) (es.length + 1) cap) (es ++ [e]) → Turns (fun k => v1.ownBlock = some k) W w' → (v1.ownBlock = some g ∨ W.heap.size < g) → K (a.put o.dst (.slice (some ⟨g, 0, none⟩) (es.length + 1) cap)) w') :
    if Region.wanted o (yielded ops a.tmps) = true then Oper.wp Tryz.prog o a w K Q else E := by
  have hw : Region.wanted o (yielded ops a.tmps) = true := by simp [Region.wanted, hgd]
  rw [if_pos hw]
  subst hw1
  subst hnb
  obtain ⟨i, hi, hz0, hz1, hz2⟩ := info_parts infoH
  have hcc : ∀ j u, (hkV e)[j]? = some u → (W.alloc (.cells cells 62)).cell? (Addr.add ⟨W.heap.size, 0, none⟩ j) = some u := by
    intro j u hu
    rw [Addr.add_lit, Nat.zero_add, World.cell?_alloc_at _ _ _ _ rfl, hcells]
    simpa using hu
  have h1' : (W.alloc (.cells cells 62)).ownsRow Bd 62 2 v1 es.length (flatH es) := World.ownsRow.alloc h1 _
  have hB' := le_alloc (.cells cells 62) hB
  obtain ⟨v', w', hr, k1, k2, k3, k4⟩ := run_append_own_at (P := Tryz.prog) (W.alloc (.cells cells 62)) Bd 31 o.type 62 i _ 2 16 Tryz.underlying31 hi hz0 hz1 hz2 rfl (by omega) _ es.length (flatH es) h1' ⟨W.heap.size, 0, none⟩ 1 1 (hkV e) (by simp [hkV]) hcc (fun u hu => by simp [hkV] at hu; rcases hu with rfl | rfl <;> rfl) (by unfold maxLen; omega) (by omega) hB'
  obtain ⟨g, cap, rfl⟩ := own_form k1 (fun e => by have := k3.1 e; have := this.2; omega)
  have t : Turns (fun k => v1.ownBlock = some k) W w' := ((Turns.refl _ W).alloc _).trans (Turns.grown k2 (fun k e => e))
  have hg : v1.ownBlock = some g ∨ W.heap.size < g := by
    rcases k4 with k4 | k4
    · exact .inl k4.symm
    · right; simp [Value.ownBlock] at k4; omega
  unfold Oper.wp
  simp [execOp, ho, resolve, invoke, builtin, hs, hx, hr, Result.andThen]
  refine h g cap w' ?_ t hg
  unfold HRow
  rw [List.length_append, show flatH (es ++ [e]) = flatH es ++ hkV e by simp [flatH]]
  exact k1
/-- One task behind a row of tasks, at one operation of a region. -/
theorem step_append_tk (w : World) {ops : Array Oper} {o : Oper} {a : Act} {K : Act → World → Prop} {Q : Exit → Act → World → Prop} {E : Prop} (hgd : o.guard = none) (s x : Operand)
    (ho : o.op = .call { callee := .builtin .append, args := #[s, x], argTypes := #[32, 32] })
    (Bd ob : Nat) (v1 : Value) (ts : List TaskD) (pvs : List Value) (t : TaskD) (pa : Option Addr) (pc : Nat) (cells : Array Value) (hcells : cells = (tkW t (.slice pa t.prog.length pc)).toArray) (W : World) (hw1 : w = W.alloc (.cells cells 66)) (hs : a.eval s = v1) (nb : Nat) (hnb : nb = W.heap.size) (hx : a.eval x = .slice (some ⟨nb, 0, none⟩) 1 1)
    (h1 : TRow Bd ob W v1 ts pvs) (hp1 : t.prog.length ≤ pc) (hp2 : pa = none → pc = 0) (hp3 : ∀ w', Turns (ownB v1 ob) W w' → AtP w' pa t.prog) (hl : ts.length ≤ 1000000) (hB : Bd ≤ W.heap.size)
    (h : ∀ g cap w', TRow Bd ob w' (.slice (some ⟨g, 0, none⟩) (ts.length + 1) cap) (ts ++ [t]) (pvs ++ [.slice pa t.prog.length pc]) → Turns (fun k => v1.ownBlock = some k) W w' → (v1.ownBlock = some g ∨ W.heap.size < g) → K (a.put o.dst (.slice (some ⟨g, 0, none⟩) (ts.length + 1) cap)) w') :
    if Region.wanted o (yielded ops a.tmps) = true then Oper.wp Tryz.prog o a w K Q else E := by
  have hw : Region.wanted o (yielded ops a.tmps) = true := by simp [Region.wanted, hgd]
  rw [if_pos hw]
  subst hw1
  subst hnb
  obtain ⟨i, hi, hz0, hz1, hz2⟩ := info_parts infoTk
  have hcc : ∀ j u, (tkW t (.slice pa t.prog.length pc))[j]? = some u → (W.alloc (.cells cells 66)).cell? (Addr.add ⟨W.heap.size, 0, none⟩ j) = some u := by
    intro j u hu
    rw [Addr.add_lit, Nat.zero_add, World.cell?_alloc_at _ _ _ _ rfl, hcells]
    simpa using hu
  have h1' : (W.alloc (.cells cells 66)).ownsRow Bd 66 5 v1 ts.length (flatT ts pvs) := World.ownsRow.alloc h1.row _
  have hB' := le_alloc (.cells cells 66) hB
  obtain ⟨v', w', hr, k1, k2, k3, k4⟩ := run_append_own_at (P := Tryz.prog) (W.alloc (.cells cells 66)) Bd 32 o.type 66 i _ 5 64 Tryz.underlying32 hi hz0 hz1 hz2 rfl (by omega) _ ts.length (flatT ts pvs) h1' ⟨W.heap.size, 0, none⟩ 1 1 (tkW t (.slice pa t.prog.length pc)) (by simp [tkW]) hcc (fun u hu => by simp [tkW] at hu; rcases hu with rfl | rfl | rfl | rfl | rfl <;> rfl) (by unfold maxLen; omega) (by omega) hB'
  obtain ⟨g, cap, rfl⟩ := own_form k1 (fun e => by have := k3.1 e; have := this.2; omega)
  have tt : Turns (fun k => v1.ownBlock = some k) W w' := ((Turns.refl _ W).alloc _).trans (Turns.grown k2 (fun k e => e))
  have hg : v1.ownBlock = some g ∨ W.heap.size < g := by
    rcases k4 with k4 | k4
    · exact .inl k4.symm
    · right; simp [Value.ownBlock] at k4; omega
  have hg2 : v1.ownBlock = some g ∨ W.heap.size ≤ g := hg.imp (fun e => e) (fun e => by omega)
  unfold Oper.wp
  simp [execOp, ho, resolve, invoke, builtin, hs, hx, hr, Result.andThen]
  refine h g cap w' ⟨by rw [List.length_append, List.length_append, h1.len]; rfl, ?_, ?_⟩ tt hg
  · rw [List.length_append, flatT_append _ _ _ _ h1.len]
    exact k1
  · intro j u pv e1 e2
    by_cases hj : j < ts.length
    · rw [List.getElem?_append_left hj] at e1
      rw [List.getElem?_append_left (by rw [h1.len]; exact hj)] at e2
      obtain ⟨qa, qc, f1, f2, f3, f4⟩ := h1.pg j u pv e1 e2
      exact ⟨qa, qc, f1, f2, f3, stay_next f4 tt hg2⟩
    · have hj2 : j = ts.length := by
        have := (List.getElem?_eq_some_iff.1 e1).1
        simp at this
        omega
      subst hj2
      rw [List.getElem?_append_right (Nat.le_refl _), Nat.sub_self] at e1
      rw [List.getElem?_append_right (by rw [h1.len]; exact Nat.le_refl _), h1.len, Nat.sub_self] at e2
      simp at e1 e2
      subst e1 e2
      exact ⟨pa, pc, rfl, hp1, hp2, stay_next hp3 tt hg2⟩
end Go.Proofs.YtolljdomnohmdaaGreatDoor
