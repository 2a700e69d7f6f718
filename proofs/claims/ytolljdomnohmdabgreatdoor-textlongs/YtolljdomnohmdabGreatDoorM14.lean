/- Ints, of the law's package; ops as they are written. -/
import Derived.ProofKit
import Derived.OpenShut
import Derived.ShutString
import Derived.ChangeOld
import Derived.ChangeArms
import Derived.WideShapes
import Derived.Below
import Derived.Deep.Slices
import Derived.Deep.SlicePairs
import Derived.Lib.SlicesCompact
import Derived.Test.YtolljdomnohmdabGreatDoorM2
import Derived.Test.YtolljdomnohmdabGreatDoorCas
import Derived.Test.YtolljdomnohmdabGreatDoorCheck
import Derived.Test.YtolljdomnohmdabGreatDoorM3
import Derived.Test.YtolljdomnohmdabGreatDoorM4
import Derived.Test.YtolljdomnohmdabGreatDoorM0
import Derived.Test.YtolljdomnohmdabGreatDoorM1
import Derived.Test.YtolljdomnohmdabGreatDoorOpT
import Derived.Test.YtolljdomnohmdabGreatDoorPar
import Derived.Test.YtolljdomnohmdabGreatDoorM7
import Derived.Test.YtolljdomnohmdabGreatDoorTxt
import Derived.Test.YtolljdomnohmdabGreatDoorRWrd
import Derived.Test.YtolljdomnohmdabGreatDoorM5
import Derived.Test.YtolljdomnohmdabGreatDoorRead
import Derived.Test.YtolljdomnohmdabGreatDoorM8
import Derived.Test.YtolljdomnohmdabGreatDoorTrn
import Derived.Test.YtolljdomnohmdabGreatDoorQTmA
import Derived.Test.YtolljdomnohmdabGreatDoorM10
import Derived.Test.YtolljdomnohmdabGreatDoorM12
import Derived.Test.YtolljdomnohmdabGreatDoorQStA
namespace Go.Proofs.YtolljdomnohmdabGreatDoor
open Go.RowKit

/-- Ops that stand as they are written. -/
theorem lit_ops (w : World) (ps : List OpD) (hc : ∀ o ∈ ps, o.cases = []) (cells : Array Value) (h : cells = (flatO ps (ps.map fun _ => .slice none 0 0)).toArray) : AtP (w.alloc (.cells cells 37)) (some ⟨w.heap.size, 0, none⟩) ps := by
  subst h
  intro j o hj
  refine ⟨w.heap.size, 0, rfl, ?_⟩
  have hs : (ps.map fun _ => Value.slice none 0 0)[j]? = some (.slice none 0 0) := by rw [List.getElem?_map, hj]; rfl
  have hcell : ∀ i, i < 5 → (w.alloc (.cells (flatO ps (ps.map fun _ => .slice none 0 0)).toArray 37)).cell? ⟨w.heap.size, 0 + j * 5 + i, none⟩ = (opV o (.slice none 0 0))[i]? := by
    intro i hi
    rw [World.cell?_alloc_at _ _ _ _ rfl, Nat.zero_add]
    have := flatO_get ps _ j i o _ hj hs hi
    simpa using this
  have hco := hc o (List.mem_of_getElem? hj)
  refine ⟨hcell 0 (by omega), hcell 1 (by omega), hcell 2 (by omega), hcell 3 (by omega), none, 0, ?_, by rw [hco]; simp, fun _ => rfl, ?_⟩
  · rw [hco]
    exact hcell 4 (by omega)
  · rw [hco]
    exact AtC.none _
end Go.Proofs.YtolljdomnohmdabGreatDoor
namespace Go.Proofs.YtolljdomnohmdabGreatDoor
open Go.RowKit

def hkV (c : ChanD) : List Value := [.int .i64 c.room, .int .i64 c.server]
def flatH (cs : List ChanD) : List Value := cs.flatMap hkV
theorem flatH_get : ∀ (l : List ChanD) (j i : Nat) (c : ChanD), l[j]? = some c → i < 2 → (flatH l)[j * 2 + i]? = (hkV c)[i]?
  | [], _, _, _, h, _ => by simp at h
  | x :: r, 0, i, e, h, hi => by
    simp at h
    subst h
    simp only [flatH, List.flatMap_cons]
    rw [List.getElem?_append_left (by simp [hkV]; omega)]
    simp
  | x :: r, j + 1, i, e, h, hi => by
    simp only [flatH, List.flatMap_cons]
    rw [List.getElem?_append_right (by simp [hkV]; omega)]
    have := flatH_get r j i e (by simpa using h) hi
    rw [show (j + 1) * 2 + i - (hkV x).length = j * 2 + i by simp [hkV]; omega]
    exact this
def HRow (Bd : Nat) (w : World) (v : Value) (cs : List ChanD) : Prop := w.ownsRow Bd 60 2 v cs.length (flatH cs)
theorem HRow.kept {Bd : Nat} {w w' : World} {v : Value} {l : List ChanD} (h : HRow Bd w v l) (t : Kept w w') : HRow Bd w' v l := own_kept h t
theorem HRow.turns {S : Nat → Prop} {Bd : Nat} {w w' : World} {v : Value} {l : List ChanD} (h : HRow Bd w v l) (t : Turns S w w') (hv : ∀ q, v.ownBlock = some q → ¬ S q) : HRow Bd w' v l := owns_turns h t hv
theorem AtH.turns {S : Nat → Prop} {w w' : World} {a : Option Addr} {cs : List ChanD} (h : AtH w a cs) (t : Turns S w w') (hs : ∀ b f, a = some ⟨b, f, none⟩ → ¬ S b) : AtH w' a cs := by
  intro j c hj
  obtain ⟨b, f, e, h1, h2⟩ := h j c hj
  exact ⟨b, f, e, t.cell h1 (cell_lt h1) (hs b f e), t.cell h2 (cell_lt h2) (hs b f e)⟩
theorem HRow.view {Bd : Nat} {w : World} {v : Value} {cs : List ChanD} (h : HRow Bd w v cs) : ∃ a c, v = .slice a cs.length c ∧ AtH w a cs ∧ (∀ b f, a = some ⟨b, f, none⟩ → Bd ≤ b ∧ v.ownBlock = some b) := by
  rcases h.2 with ⟨h1, h2⟩ | ⟨g, cap, cur, h1, hb, _⟩
  · refine ⟨none, 0, by rw [h1, h2], ?_, fun b f e => by cases e⟩
    rw [List.eq_nil_of_length_eq_zero h2]
    exact AtH.nil _ _
  · refine ⟨some ⟨g, 0, none⟩, cap, h1, ?_, fun b f e => by cases e; exact ⟨hb, by rw [h1]; rfl⟩⟩
    subst h1
    intro j c hj
    have hj2 := (List.getElem?_eq_some_iff.1 hj).1
    unfold HRow at h
    refine ⟨g, 0, rfl, ?_, ?_⟩
    · rw [Nat.zero_add, show j * 2 = j * 2 + 0 from rfl, h.cellAt (j * 2 + 0) (by omega), flatH_get cs j 0 c hj (by omega)]
      rfl
    · rw [Nat.zero_add, h.cellAt (j * 2 + 1) (by omega), flatH_get cs j 1 c hj (by omega)]
      rfl
def tkW (t : TaskD) (pv : Value) : List Value := [.string (B t.name), .int .i64 t.period, .int .i64 t.deadline, .int .i64 t.budget, pv]
def flatT : List TaskD → List Value → List Value
  | t :: p, pv :: r => tkW t pv ++ flatT p r
  | _, _ => []
theorem flatT_append : ∀ (p : List TaskD) (r : List Value) (t : TaskD) (pv : Value), r.length = p.length → flatT (p ++ [t]) (r ++ [pv]) = flatT p r ++ tkW t pv
  | [], [], t, pv, _ => by simp [flatT]
  | [], _ :: _, _, _, h => by simp at h
  | _ :: _, [], _, _, h => by simp at h
  | q :: p, x :: r, t, pv, h => by
    simp only [List.cons_append, flatT]
    rw [flatT_append p r t pv (by simpa using h)]
    simp
theorem flatT_get : ∀ (p : List TaskD) (r : List Value) (j i : Nat) (t : TaskD) (pv : Value), p[j]? = some t → r[j]? = some pv → i < 5 → (flatT p r)[j * 5 + i]? = (tkW t pv)[i]?
  | [], _, _, _, _, _, h, _, _ => by simp at h
  | _ :: _, [], _, _, _, _, _, h, _ => by simp at h
  | q :: p, x :: r, 0, i, t, pv, h1, h2, hi => by
    simp at h1 h2
    subst h1 h2
    simp only [flatT, Nat.zero_mul, Nat.zero_add]
    rw [List.getElem?_append_left (by simp [tkW]; omega)]
  | q :: p, x :: r, j + 1, i, t, pv, h1, h2, hi => by
    simp only [flatT]
    rw [List.getElem?_append_right (by simp [tkW]; omega)]
    have := flatT_get p r j i t pv (by simpa using h1) (by simpa using h2) hi
    rw [show (j + 1) * 5 + i - (tkW q x).length = j * 5 + i by simp [tkW]; omega, this]
/-- What a call may turn that has such a row, and two blocks more, one behind the other. -/
def ownB (v : Value) (ob : Nat) (k : Nat) : Prop := v.ownBlock = some k ∨ k = ob ∨ k + 1 = ob
/-- A row of tasks that the call owns, each with a program that stays as it is while the row grows. -/
structure TRow (Bd ob : Nat) (w : World) (v : Value) (ts : List TaskD) (pvs : List Value) : Prop where
  len : pvs.length = ts.length
  row : w.ownsRow Bd 33 5 v ts.length (flatT ts pvs)
  pg : ∀ (j : Nat) (t : TaskD) (pv : Value), ts[j]? = some t → pvs[j]? = some pv → ∃ pa pc, pv = .slice pa t.prog.length pc ∧ t.prog.length ≤ pc ∧ (pa = none → pc = 0) ∧ ∀ w', Turns (ownB v ob) w w' → AtP w' pa t.prog
theorem TRow.nil (Bd ob : Nat) (w : World) : TRow Bd ob w (.slice none 0 0) [] [] := ⟨rfl, World.ownsRow_nil _ _ _ _, fun j t pv h => by simp at h⟩
theorem TRow.kept {Bd ob : Nat} {w w' : World} {v : Value} {ts : List TaskD} {pvs : List Value} (h : TRow Bd ob w v ts pvs) (k : Kept w w') : TRow Bd ob w' v ts pvs :=
  ⟨h.len, own_kept h.row k, fun j t pv h1 h2 => by
    obtain ⟨pa, pc, e1, e2, e3, e4⟩ := h.pg j t pv h1 h2
    exact ⟨pa, pc, e1, e2, e3, fun w2 t2 => e4 w2 ((k.turns.mono (fun _ _ f => f.elim)).trans t2)⟩⟩
theorem TRow.other {Bd ob : Nat} {w w' : World} {v : Value} {ts : List TaskD} {pvs : List Value} (h : TRow Bd ob w v ts pvs) (k : Turns (fun i => i = ob) w w') (hv : v.ownBlock ≠ some ob) : TRow Bd ob w' v ts pvs :=
  ⟨h.len, owns_turns h.row k (fun q hq e => hv (by rw [hq, e])), fun j t pv h1 h2 => by
    obtain ⟨pa, pc, e1, e2, e3, e4⟩ := h.pg j t pv h1 h2
    exact ⟨pa, pc, e1, e2, e3, fun w2 t2 => e4 w2 ((k.mono (fun _ _ f => .inr (.inl f))).trans t2)⟩⟩
theorem TRow.res {Bd ob : Nat} {w w' : World} {v : Value} {ts : List TaskD} {pvs : List Value} (h : TRow Bd ob w v ts pvs) (k : Turns (fun i => i + 1 = ob) w w') (hv : ∀ q, v.ownBlock = some q → q + 1 ≠ ob) : TRow Bd ob w' v ts pvs :=
  ⟨h.len, owns_turns h.row k (fun q hq e => hv q hq e), fun j t pv h1 h2 => by
    obtain ⟨pa, pc, e1, e2, e3, e4⟩ := h.pg j t pv h1 h2
    exact ⟨pa, pc, e1, e2, e3, fun w2 t2 => e4 w2 ((k.mono (fun _ _ f => .inr (.inr f))).trans t2)⟩⟩
theorem TRow.view {Bd ob : Nat} {w : World} {v : Value} {ts : List TaskD} {pvs : List Value} (h : TRow Bd ob w v ts pvs) : ∃ a c, v = .slice a ts.length c ∧ AtT w a ts ∧ (∀ b f, a = some ⟨b, f, none⟩ → Bd ≤ b ∧ f = 0) := by
  have hrow := h.row
  rcases hrow.2 with ⟨h1, h2⟩ | ⟨g, cap, cur, h1, hb, _⟩
  · refine ⟨none, 0, by rw [h1, h2], ?_, fun b f e => by cases e⟩
    rw [List.eq_nil_of_length_eq_zero h2]
    exact AtT.nil _ _
  · refine ⟨some ⟨g, 0, none⟩, cap, h1, ?_, fun b f e => by cases e; exact ⟨hb, rfl⟩⟩
    intro j t hj
    have hj2 := (List.getElem?_eq_some_iff.1 hj).1
    obtain ⟨pv, hpv⟩ : ∃ pv, pvs[j]? = some pv := ⟨_, List.getElem?_eq_getElem (by rw [h.len]; exact hj2)⟩
    obtain ⟨pa, pc, e1, e2, e3, e4⟩ := h.pg j t pv hj hpv
    rw [h1] at hrow
    refine ⟨g, 0, rfl, ?_⟩
    have hc : ∀ i, i < 5 → w.cell? ⟨g, 0 + j * 5 + i, none⟩ = (tkW t pv)[i]? := by
      intro i hi
      rw [Nat.zero_add, hrow.cellAt (j * 5 + i) (by omega), flatT_get ts pvs j i t pv hj hpv hi]
    refine ⟨hc 0 (by omega), hc 1 (by omega), hc 2 (by omega), hc 3 (by omega), pa, pc, ?_, e2, e4 w (Turns.refl _ _)⟩
    rw [hc 4 (by omega), ← e1]
    rfl
theorem orow_turns {S : Nat → Prop} {B : Nat} {w w' : World} {v : Value} {p : List OpD} {svs : List Value} (h : ORow B w v p svs) (t : Turns S w w') (hS : ∀ k, S k → k < B) : ORow B w' v p svs :=
  ⟨h.len, owns_turns h.row t (fun q hq e => by have h1 := (World.ownsRow.lt h.row q hq).1; have h2 := hS q e; omega), fun j o sv h1 h2 =>
    ⟨owns_turns (h.cs j o sv h1 h2).1 t (fun q hq e => by have h3 := (World.ownsRow.lt (h.cs j o sv h1 h2).1 q hq).1; have h4 := hS q e; omega), (h.cs j o sv h1 h2).2⟩⟩
/-- What stays while a row grows stays while the grown one does. -/
theorem stay_next {Q : World → Prop} {v : Value} {ob g n cap : Nat} {w w5 : World} (h : ∀ w', Turns (ownB v ob) w w' → Q w') (t : Turns (fun k => v.ownBlock = some k) w w5) (hg : v.ownBlock = some g ∨ w.heap.size ≤ g) : ∀ w', Turns (ownB (.slice (some ⟨g, 0, none⟩) n cap) ob) w5 w' → Q w' := by
  intro w' k
  refine h w' ?_
  refine (t.mono (fun _ _ e => .inl e)).next k ?_
  intro i hi hk
  rcases hk with hk | hk
  · simp [Value.ownBlock] at hk
    rcases hg with hg | hg
    · left; rw [hg, hk]
    · omega
  · exact .inr hk
theorem infoH : (Tryz.prog.info? 60).map (fun i => (i.zero, i.size, i.bytes)) = some (some (.agg #[.int .i64 0, .int .i64 0]), 2, 16) := by kernel_rfl
theorem infoTk : (Tryz.prog.info? 33).map (fun i => (i.zero, i.size, i.bytes)) = some (some (.agg #[.string ⟨#[]⟩, .int .i64 0, .int .i64 0, .int .i64 0, .slice none 0 0]), 5, 64) := by kernel_rfl
/-- One channel behind a row of channels, at one operation of a region. -/
theorem step_append_chan (w : World) {ops : Array Oper} {o : Oper} {a : Act} {K : Act → World → Prop} {Q : Exit → Act → World → Prop} {E : Prop} (hgd : o.guard = none) (s x : Operand)
    (ho : o.op = .call { callee := .builtin .append, args := #[s, x], argTypes := #[24, 24] })
    (Bd : Nat) (v1 : Value) (es : List ChanD) (e : ChanD) (cells : Array Value) (hcells : cells = (hkV e).toArray) (W : World) (hw1 : w = W.alloc (.cells cells 60)) (hs : a.eval s = v1) (nb : Nat) (hnb : nb = W.heap.size) (hx : a.eval x = .slice (some ⟨nb, 0, none⟩) 1 1)
    (h1 : HRow Bd W v1 es) (hl : es.length ≤ 1000000) (hB : Bd ≤ W.heap.size)
    (h : ∀ g cap w', HRow Bd w' (.slice (some ⟨g, 0, none⟩) (es.length + 1) cap) (es ++ [e]) → Turns (fun k => v1.ownBlock = some k) W w' → (v1.ownBlock = some g ∨ W.heap.size < g) → K (a.put o.dst (.slice (some ⟨g, 0, none⟩) (es.length + 1) cap)) w') :
    if Region.wanted o (yielded ops a.tmps) = true then Oper.wp Tryz.prog o a w K Q else E := by
  have hw : Region.wanted o (yielded ops a.tmps) = true := by simp [Region.wanted, hgd]
  rw [if_pos hw]
  subst hw1
  subst hnb
  obtain ⟨i, hi, hz0, hz1, hz2⟩ := info_parts infoH
  have hcc : ∀ j u, (hkV e)[j]? = some u → (W.alloc (.cells cells 60)).cell? (Addr.add ⟨W.heap.size, 0, none⟩ j) = some u := by
    intro j u hu
    rw [Addr.add_lit, Nat.zero_add, World.cell?_alloc_at _ _ _ _ rfl, hcells]
    simpa using hu
  have h1' : (W.alloc (.cells cells 60)).ownsRow Bd 60 2 v1 es.length (flatH es) := World.ownsRow.alloc h1 _
  have hB' := le_alloc (.cells cells 60) hB
  obtain ⟨v', w', hr, k1, k2, k3, k4⟩ := run_append_own_at (P := Tryz.prog) (W.alloc (.cells cells 60)) Bd 24 o.type 60 i _ 2 16 Tryz.underlying24 hi hz0 hz1 hz2 rfl (by omega) _ es.length (flatH es) h1' ⟨W.heap.size, 0, none⟩ 1 1 (hkV e) (by simp [hkV]) hcc (fun u hu => by simp [hkV] at hu; rcases hu with rfl | rfl <;> rfl) (by unfold maxLen; omega) (by omega) hB'
  obtain ⟨g, cap, rfl⟩ := own_form k1 (fun e => by have := k3.1 e; have := this.2; omega)
  have t : Turns (fun k => v1.ownBlock = some k) W w' := ((Turns.refl _ W).alloc _).trans (Turns.grown k2 (fun k e => e))
  have hg : v1.ownBlock = some g ∨ W.heap.size < g := by
    rcases k4 with k4 | k4
    · exact .inl k4.symm
    · right; simp [Value.ownBlock] at k4; omega
  unfold Oper.wp
  simp [execOp, ho, resolve, invoke, builtin, hs, hx, hr, Result.andThen]
  refine h g cap w' ?_ t hg
  unfold HRow
  rw [List.length_append, show flatH (es ++ [e]) = flatH es ++ hkV e by simp [flatH]]
  exact k1
/-- One task behind a row of tasks, at one operation of a region. -/
theorem step_append_tk (w : World) {ops : Array Oper} {o : Oper} {a : Act} {K : Act → World → Prop} {Q : Exit → Act → World → Prop} {E : Prop} (hgd : o.guard = none) (s x : Operand)
    (ho : o.op = .call { callee := .builtin .append, args := #[s, x], argTypes := #[25, 25] })
    (Bd ob : Nat) (v1 : Value) (ts : List TaskD) (pvs : List Value) (t : TaskD) (pa : Option Addr) (pc : Nat) (cells : Array Value) (hcells : cells = (tkW t (.slice pa t.prog.length pc)).toArray) (W : World) (hw1 : w = W.alloc (.cells cells 33)) (hs : a.eval s = v1) (nb : Nat) (hnb : nb = W.heap.size) (hx : a.eval x = .slice (some ⟨nb, 0, none⟩) 1 1)
    (h1 : TRow Bd ob W v1 ts pvs) (hp1 : t.prog.length ≤ pc) (hp2 : pa = none → pc = 0) (hp3 : ∀ w', Turns (ownB v1 ob) W w' → AtP w' pa t.prog) (hl : ts.length ≤ 1000000) (hB : Bd ≤ W.heap.size)
    (h : ∀ g cap w', TRow Bd ob w' (.slice (some ⟨g, 0, none⟩) (ts.length + 1) cap) (ts ++ [t]) (pvs ++ [.slice pa t.prog.length pc]) → Turns (fun k => v1.ownBlock = some k) W w' → (v1.ownBlock = some g ∨ W.heap.size < g) → K (a.put o.dst (.slice (some ⟨g, 0, none⟩) (ts.length + 1) cap)) w') :
    if Region.wanted o (yielded ops a.tmps) = true then Oper.wp Tryz.prog o a w K Q else E := by
  have hw : Region.wanted o (yielded ops a.tmps) = true := by simp [Region.wanted, hgd]
  rw [if_pos hw]
  subst hw1
  subst hnb
  obtain ⟨i, hi, hz0, hz1, hz2⟩ := info_parts infoTk
  have hcc : ∀ j u, (tkW t (.slice pa t.prog.length pc))[j]? = some u → (W.alloc (.cells cells 33)).cell? (Addr.add ⟨W.heap.size, 0, none⟩ j) = some u := by
    intro j u hu
    rw [Addr.add_lit, Nat.zero_add, World.cell?_alloc_at _ _ _ _ rfl, hcells]
    simpa using hu
  have h1' : (W.alloc (.cells cells 33)).ownsRow Bd 33 5 v1 ts.length (flatT ts pvs) := World.ownsRow.alloc h1.row _
  have hB' := le_alloc (.cells cells 33) hB
  obtain ⟨v', w', hr, k1, k2, k3, k4⟩ := run_append_own_at (P := Tryz.prog) (W.alloc (.cells cells 33)) Bd 25 o.type 33 i _ 5 64 Tryz.underlying25 hi hz0 hz1 hz2 rfl (by omega) _ ts.length (flatT ts pvs) h1' ⟨W.heap.size, 0, none⟩ 1 1 (tkW t (.slice pa t.prog.length pc)) (by simp [tkW]) hcc (fun u hu => by simp [tkW] at hu; rcases hu with rfl | rfl | rfl | rfl | rfl <;> rfl) (by unfold maxLen; omega) (by omega) hB'
  obtain ⟨g, cap, rfl⟩ := own_form k1 (fun e => by have := k3.1 e; have := this.2; omega)
  have tt : Turns (fun k => v1.ownBlock = some k) W w' := ((Turns.refl _ W).alloc _).trans (Turns.grown k2 (fun k e => e))
  have hg : v1.ownBlock = some g ∨ W.heap.size < g := by
    rcases k4 with k4 | k4
    · exact .inl k4.symm
    · right; simp [Value.ownBlock] at k4; omega
  have hg2 : v1.ownBlock = some g ∨ W.heap.size ≤ g := hg.imp (fun e => e) (fun e => by omega)
  unfold Oper.wp
  simp [execOp, ho, resolve, invoke, builtin, hs, hx, hr, Result.andThen]
  refine h g cap w' ⟨by rw [List.length_append, List.length_append, h1.len]; rfl, ?_, ?_⟩ tt hg
  · rw [List.length_append, flatT_append _ _ _ _ h1.len]
    exact k1
  · intro j u pv e1 e2
    by_cases hj : j < ts.length
    · rw [List.getElem?_append_left hj] at e1
      rw [List.getElem?_append_left (by rw [h1.len]; exact hj)] at e2
      obtain ⟨qa, qc, f1, f2, f3, f4⟩ := h1.pg j u pv e1 e2
      exact ⟨qa, qc, f1, f2, f3, stay_next f4 tt hg2⟩
    · have hj2 : j = ts.length := by
        have := (List.getElem?_eq_some_iff.1 e1).1
        simp at this
        omega
      subst hj2
      rw [List.getElem?_append_right (Nat.le_refl _), Nat.sub_self] at e1
      rw [List.getElem?_append_right (by rw [h1.len]; exact Nat.le_refl _), h1.len, Nat.sub_self] at e2
      simp at e1 e2
      subst e1 e2
      exact ⟨pa, pc, rfl, hp1, hp2, stay_next hp3 tt hg2⟩
end Go.Proofs.YtolljdomnohmdabGreatDoor
namespace Go.Proofs.YtolljdomnohmdabGreatDoor
open Go.RowKit

end Go.Proofs.YtolljdomnohmdabGreatDoor
namespace Go.Proofs.YtolljdomnohmdabGreatDoor
open Go.RowKit

def sameH (a b : ChanD) : Bool := (a.room == b.room) && (a.server == b.server)
def sameCs : List ChanD → List ChanD → Bool
  | [], [] => true
  | a :: p, b :: q => if sameH a b = true then sameCs p q else false
  | _, _ => false
theorem sameCs_len : ∀ (p q : List ChanD), p.length ≠ q.length → sameCs p q = false
  | [], [], h => absurd rfl h
  | [], _ :: _, _ => rfl
  | _ :: _, [], _ => rfl
  | a :: r, b :: t, h => by
    rw [sameCs]
    split
    · exact sameCs_len r t (by simpa using h)
    · rfl
theorem neq98 (r s r' s' : Int) (w : World) : (binOp .neq 71 (.agg #[.int .i64 r, .int .i64 s]) (.agg #[.int .i64 r', .int .i64 s'])).run Tryz.prog w = .ok (.bool (!sameH ⟨r, s⟩ ⟨r', s'⟩)) w := by
  rw [run_neq_struct, run_equalIn_agg w 9999 71 _ _ (by simp [Program.fieldsOf, Tryz.underlying71]) (by kernel_rfl)]
  simp [Program.fieldsOf, Tryz.underlying71, Op.eqFields, go_sem]
  by_cases h1 : r = r' <;> by_cases h2 : s = s' <;> simp [sameH, h1, h2]
theorem grd98 (op : BinOp) (a b : Operand) (xs ys : Array Value) (w : World) : (eqGuard op 71 a b (.agg xs) (.agg ys)).run Tryz.prog w = .ok () w := run_eqGuard_agg w op 71 a b xs ys (by kernel_rfl)
theorem neq99 (r s r' s' : Int) (w : World) : (binOp .neq 60 (.agg #[.int .i64 r, .int .i64 s]) (.agg #[.int .i64 r', .int .i64 s'])).run Tryz.prog w = .ok (.bool (!sameH ⟨r, s⟩ ⟨r', s'⟩)) w := by
  rw [run_neq_struct, run_equalIn_agg w 9999 60 _ _ (by simp [Program.fieldsOf, Tryz.underlying60]) (by kernel_rfl)]
  simp [Program.fieldsOf, Tryz.underlying60, Op.eqFields, go_sem]
  by_cases h1 : r = r' <;> by_cases h2 : s = s' <;> simp [sameH, h1, h2]
theorem grd99 (op : BinOp) (a b : Operand) (xs ys : Array Value) (w : World) : (eqGuard op 60 a b (.agg xs) (.agg ys)).run Tryz.prog w = .ok () w := run_eqGuard_agg w op 60 a b xs ys (by kernel_rfl)
def sameS (L : Int) (cs : List ChanD) (ts : List TaskD) (L' : Int) (cs' : List ChanD) (ts' : List TaskD) : Bool := (L == L') && sameCs cs cs' && sameTs ts ts'
end Go.Proofs.YtolljdomnohmdabGreatDoor
namespace Go.Proofs.YtolljdomnohmdabGreatDoor
open Go.RowKit

/-- A call that tells v in every later world. -/
structure RunB (f : FuncId) (args : Array Value) (w : World) (v : Value) : Prop where
  run : ∀ wx, Kept w wx → Calls Tryz.prog f args wx fun e w' => e = .returned v ∧ Kept wx w'
set_option maxHeartbeats 4000000 in
set_option maxRecDepth 10000 in
theorem rsameP_any (a b : Option Addr) (c d : Nat) (p q : List OpD) (w : World) (hA : AtP w a p) (hB : AtP w b q) (hp : p.length ≤ 100000) (hc : ∀ o ∈ p, o.cases.length ≤ 1000000) :
    Calls Tryz.prog 24 #[.slice a p.length c, .slice b q.length d] w fun e w' => e = .returned (.bool (sameP p q)) ∧ Kept w w' := by
  have HA : Hid (AtP w a p) := hA
  have HB : Hid (AtP w b q) := hB
  have HC : Hid (∀ o ∈ p, o.cases.length ≤ 1000000) := hc
  clear hA hB hc
  by_cases hpq : p.length = q.length
  · obtain ⟨m, hml⟩ : ∃ m, p.length = m := ⟨_, rfl⟩
    have HL : Hid (p.length = m ∧ q.length = m) := ⟨hml, by omega⟩
    rw [← hpq, hml]
    rw [hml] at hp
    clear hpq hml
    go_enter Tryz.func24, Tryz.ntmps24
    go_wp2_with fail
    go_loopg [5] m (fun gk i wr => ∃ (k : Nat) (W : World), W = wr ∧ i = .int .i64 k ∧ k + gk = m ∧ Hid (sameP (p.drop k) (q.drop k) = sameP p q) ∧ Kept w W)
    case atStart => exact ⟨0, _, rfl, rfl, by omega, rfl, Kept.refl _⟩
    case round =>
      obtain ⟨j, W, hW, rfl, hk, HI, K⟩ := hrel
      subst hW
      by_cases hkm : j < m
      · obtain ⟨b1, f1, k, n, v, wt, l, la, lc, rfl, hpj, g0, g1, g2, g3, g4, _, hat, _, e3⟩ := (HA.out.kept K).get j (by rw [HL.out.1]; exact hkm)
        obtain ⟨b2, f2, k', n', v', wt', l', la', lc', rfl, _, g0', g1', g2', g3', g4', _, hat', _, e3'⟩ := (HB.out.kept K).get j (by rw [HL.out.2]; exact hkm)
        have c1 : (j : Int) < (m : Int) := by omega
        have c2 : (0 : Int) ≤ (j : Int) := by omega
        have HE : Hid (sameP p q = if sameD ⟨k, n, v, wt, l⟩ ⟨k', n', v', wt', l'⟩ = true then sameP (p.drop (j + 1)) (q.drop (j + 1)) else false) := by show _ = _; rw [← HI.out, e3, e3']; rfl
        obtain ⟨z, hz⟩ : ∃ z, sameD ⟨k, n, v, wt, l⟩ ⟨k', n', v', wt', l'⟩ = z := ⟨_, rfl⟩
        have HSM : Hid (RunB 39 #[.agg #[.int .i64 k, .int .i64 n, .int .i64 v, .int .i64 wt, .slice la l.length lc], .agg #[.int .i64 k', .int .i64 n', .int .i64 v', .int .i64 wt', .slice la' l'.length lc']] W (.bool z)) := ⟨fun wx kx => by
          have h := rsame_any k n v wt k' n' v' wt' la la' l.length l'.length lc lc' l l' wx (hat.kept kx) (hat'.kept kx) (HC.out _ (List.mem_of_getElem? hpj))
          rw [hz] at h
          exact h⟩
        rw [hz] at HE
        have KD : Kept W W.drew := (Kept.refl W).drew
        obtain ⟨gi, rfl⟩ : ∃ g, gk = g + 1 := ⟨gk - 1, by omega⟩
        clear e3 e3' HI hz hpj hat hat'
        cases z with
        | true =>
          have HX : Hid (sameP (p.drop (j + 1)) (q.drop (j + 1)) = sameP p q) := by show _ = _; rw [HE.out, if_pos rfl]
          clear HE
          go_wp2_with fail
          go_region_held3 (fun w' => w'.cell? ⟨b1, f1 + j * 5, none⟩ = some (.int .i64 k) ∧ w'.cell? ⟨b1, f1 + j * 5 + 1, none⟩ = some (.int .i64 n) ∧ w'.cell? ⟨b1, f1 + j * 5 + 2, none⟩ = some (.int .i64 v) ∧ w'.cell? ⟨b1, f1 + j * 5 + 3, none⟩ = some (.int .i64 wt) ∧ w'.cell? ⟨b1, f1 + j * 5 + 4, none⟩ = some (.slice la l.length lc) ∧ w'.cell? ⟨b2, f2 + j * 5, none⟩ = some (.int .i64 k') ∧ w'.cell? ⟨b2, f2 + j * 5 + 1, none⟩ = some (.int .i64 n') ∧ w'.cell? ⟨b2, f2 + j * 5 + 2, none⟩ = some (.int .i64 v') ∧ w'.cell? ⟨b2, f2 + j * 5 + 3, none⟩ = some (.int .i64 wt') ∧ w'.cell? ⟨b2, f2 + j * 5 + 4, none⟩ = some (.slice la' l'.length lc')) (go_keep) (first | (go_at_call 39; refine (HSM.out.run _ KD).mono ?_; rintro e w8 ⟨rfl, t8⟩; have K8 := ((Kept.refl W).drew).trans t8; have y0 := K8.cell g0; have y1 := K8.cell g1; have y2 := K8.cell g2; have y3 := K8.cell g3; have y4 := K8.cell g4; have y5 := K8.cell g0'; have y6 := K8.cell g1'; have y7 := K8.cell g2'; have y8 := K8.cell g3'; have y9 := K8.cell g4') | fail)
          go_wp2_with fail
          go_roundg gi
          case rel => exact ⟨j + 1, _, rfl, by go_num, by omega, HX, K.trans K8⟩
          case measure => omega
        | false =>
          have HX : Hid (sameP p q = false) := by show _ = _; rw [HE.out, if_neg (by simp)]
          clear HE
          go_wp2_with fail
          go_region_held3 (fun w' => w'.cell? ⟨b1, f1 + j * 5, none⟩ = some (.int .i64 k) ∧ w'.cell? ⟨b1, f1 + j * 5 + 1, none⟩ = some (.int .i64 n) ∧ w'.cell? ⟨b1, f1 + j * 5 + 2, none⟩ = some (.int .i64 v) ∧ w'.cell? ⟨b1, f1 + j * 5 + 3, none⟩ = some (.int .i64 wt) ∧ w'.cell? ⟨b1, f1 + j * 5 + 4, none⟩ = some (.slice la l.length lc) ∧ w'.cell? ⟨b2, f2 + j * 5, none⟩ = some (.int .i64 k') ∧ w'.cell? ⟨b2, f2 + j * 5 + 1, none⟩ = some (.int .i64 n') ∧ w'.cell? ⟨b2, f2 + j * 5 + 2, none⟩ = some (.int .i64 v') ∧ w'.cell? ⟨b2, f2 + j * 5 + 3, none⟩ = some (.int .i64 wt') ∧ w'.cell? ⟨b2, f2 + j * 5 + 4, none⟩ = some (.slice la' l'.length lc')) (go_keep) (first | (go_at_call 39; refine (HSM.out.run _ KD).mono ?_; rintro e w8 ⟨rfl, t8⟩; have K8 := ((Kept.refl W).drew).trans t8; have y0 := K8.cell g0; have y1 := K8.cell g1; have y2 := K8.cell g2; have y3 := K8.cell g3; have y4 := K8.cell g4; have y5 := K8.cell g0'; have y6 := K8.cell g1'; have y7 := K8.cell g2'; have y8 := K8.cell g3'; have y9 := K8.cell g4') | fail)
          go_wp2_with fail
          go_ret
          rw [HX.out]
          exact ⟨rfl, K.trans K8⟩
      · have c1 : ¬ (j : Int) < (m : Int) := by omega
        have HR : Hid (sameP p q = true) := by
          show _ = _
          rw [← HI.out, List.drop_of_length_le (by rw [HL.out.1]; omega), List.drop_of_length_le (by rw [HL.out.2]; omega)]; rfl
        go_wp2_with fail
        go_ret
        rw [HR.out]
        exact ⟨rfl, K⟩
  · have h1 : ((p.length : Int) != (q.length : Int)) = true := by simp; omega
    have HR : Hid (sameP p q = false) := sameP_len p q hpq
    go_enter Tryz.func24, Tryz.ntmps24
    go_wp2_with fail
    go_ret
    rw [HR.out]
    exact ⟨rfl, Kept.refl _⟩
theorem sameT_iff (a b : TaskD) : sameT a b = true ↔ a.name = b.name ∧ a.period = b.period ∧ a.deadline = b.deadline ∧ a.budget = b.budget ∧ sameP a.prog b.prog = true := by
  unfold sameT
  simp only [Bool.and_eq_true, decide_eq_true_eq, and_assoc]
set_option maxHeartbeats 8000000 in
set_option maxRecDepth 10000 in
theorem rsset_any (L L' : Int) (ca ca' ta ta' : Option Addr) (cc cc' tc tc' : Nat) (cs cs' : List ChanD) (ts ts' : List TaskD) (w : World) (hH : AtH w ca cs) (hH' : AtH w ca' cs') (hA : AtT w ta ts) (hB : AtT w ta' ts') (hl : ts.length ≤ 100000) (hcl : cs.length ≤ 100000) (hok : TsOk ts) :
    Calls Tryz.prog 10 #[.agg #[.int .i64 L, .slice ca cs.length cc, .slice ta ts.length tc], .agg #[.int .i64 L', .slice ca' cs'.length cc', .slice ta' ts'.length tc']] w fun e w' => e = .returned (.bool (sameS L cs ts L' cs' ts')) ∧ Kept w w' := by
  have HH : Hid (AtH w ca cs) := hH
  have HH' : Hid (AtH w ca' cs') := hH'
  have HA : Hid (AtT w ta ts) := hA
  have HA' : Hid (AtT w ta' ts') := hB
  have HO : Hid (TsOk ts) := hok
  clear hH hH' hA hB hok
  have K2 : Kept w ((w.alloc (.cells #[.int .i64 L, .slice ca cs.length cc, .slice ta ts.length tc] 47)).alloc (.cells #[.int .i64 L', .slice ca' cs'.length cc', .slice ta' ts'.length tc'] 47)) := ((Kept.refl w).alloc _).alloc _
  by_cases hL : L = L'
  · by_cases hcs : cs.length = cs'.length
    · by_cases hts : ts.length = ts'.length
      · subst hL
        have HLC : Hid (cs.length = cs'.length) := hcs
        have HLT : Hid (ts.length = ts'.length) := hts
        rw [← hcs, ← hts]
        have K2 : Kept w ((w.alloc (.cells #[.int .i64 L, .slice ca cs.length cc, .slice ta ts.length tc] 47)).alloc (.cells #[.int .i64 L, .slice ca' cs.length cc', .slice ta' ts.length tc'] 47)) := ((Kept.refl w).alloc _).alloc _
        clear hcs hts
        have HB1 : Hid (Box w.heap.size ((w.alloc (.cells #[.int .i64 L, .slice ca cs.length cc, .slice ta ts.length tc] 47)).alloc (.cells #[.int .i64 L, .slice ca' cs.length cc', .slice ta' ts.length tc'] 47)) 47 w.heap.size [.int .i64 L, .slice ca cs.length cc, .slice ta ts.length tc]) := (box_new w.heap.size w 47 [.int .i64 L, .slice ca cs.length cc, .slice ta ts.length tc] (Nat.le_refl _) (by simp)).kept ((Kept.refl _).alloc _)
        have HB2 : Hid (Box w.heap.size ((w.alloc (.cells #[.int .i64 L, .slice ca cs.length cc, .slice ta ts.length tc] 47)).alloc (.cells #[.int .i64 L, .slice ca' cs.length cc', .slice ta' ts.length tc'] 47)) 47 (w.heap.size + 1) [.int .i64 L, .slice ca' cs.length cc', .slice ta' ts.length tc']) := by
          have h := box_new w.heap.size (w.alloc (.cells #[.int .i64 L, .slice ca cs.length cc, .slice ta ts.length tc] 47)) 47 [.int .i64 L, .slice ca' cs.length cc', .slice ta' ts.length tc'] (by simp) (by simp)
          rw [show (w.alloc (.cells #[.int .i64 L, .slice ca cs.length cc, .slice ta ts.length tc] 47)).heap.size = w.heap.size + 1 by simp] at h
          exact h
        have HS : Hid (sameS L cs ts L cs' ts' = (sameCs cs cs' && sameTs ts ts')) := by show _ = _; unfold sameS; rw [beq_self_eq_true, Bool.true_and]
        go_enter Tryz.func10, Tryz.ntmps10
        go_wp2_with fail
        generalize ((w.alloc (.cells #[.int .i64 L, .slice ca cs.length cc, .slice ta ts.length tc] 47)).alloc (.cells #[.int .i64 L, .slice ca' cs.length cc', .slice ta' ts.length tc'] 47)) = W2 at *
        go_loopg [5] cs.length (fun gk i wr => ∃ (j : Nat) (W : World), W = wr ∧ i = .int .i64 j ∧ j + gk = cs.length ∧ Hid (sameCs (cs.drop j) (cs'.drop j) = sameCs cs cs') ∧ Kept w W ∧ Hid (Box w.heap.size W 47 w.heap.size [.int .i64 L, .slice ca cs.length cc, .slice ta ts.length tc]) ∧ Hid (Box w.heap.size W 47 (w.heap.size + 1) [.int .i64 L, .slice ca' cs.length cc', .slice ta' ts.length tc']))
        case atStart => exact ⟨0, _, rfl, rfl, by omega, rfl, K2, HB1, HB2⟩
        case round =>
          obtain ⟨j, W, hW, rfl, hj, HI, K, HBr, HBs⟩ := hrel
          subst hW
          have s1 : W.cell? ⟨w.heap.size, 1, none⟩ = some (.slice ca cs.length cc) := HBr.out.cell 1 (by simp)
          have r1 : W.cell? ⟨w.heap.size + 1, 1, none⟩ = some (.slice ca' cs.length cc') := HBs.out.cell 1 (by simp)
          by_cases hjp : j < cs.length
          · obtain ⟨b, f, r, s, rfl, _, g0, g1, e3⟩ := (HH.out.kept K).get j hjp
            obtain ⟨b', f', r', s', rfl, _, g0', g1', e3'⟩ := (HH'.out.kept K).get j (by rw [← HLC.out]; exact hjp)
            have b1 : (j : Int) < (cs.length : Int) := by omega
            have b2 : (0 : Int) ≤ (j : Int) := by omega
            have b3 : (j : Int) < (cs'.length : Int) := by have := HLC.out; omega
            have HE : Hid (sameCs cs cs' = if sameH ⟨r, s⟩ ⟨r', s'⟩ = true then sameCs (cs.drop (j + 1)) (cs'.drop (j + 1)) else false) := by show _ = _; rw [← HI.out, e3, e3']; rfl
            clear e3 e3' HI
            have hne := fun wx => neq98 r s r' s' wx
            have hgd := grd98
            obtain ⟨gi, rfl⟩ : ∃ g, gk = g + 1 := ⟨gk - 1, by omega⟩
            cases hs : sameH ⟨r, s⟩ ⟨r', s'⟩ with
            | true =>
              simp only [hs, Bool.not_true] at hne
              have HX : Hid (sameCs (cs.drop (j + 1)) (cs'.drop (j + 1)) = sameCs cs cs') := by show _ = _; rw [HE.out, hs, if_pos rfl]
              clear hs HE
              go_wp2_with fail
              go_quiet (fail)
              go_wp2_with fail
              go_roundg gi
              case rel => exact ⟨j + 1, _, rfl, by go_num, by omega, HX, K.drewN _, HBr.out.kept ((Kept.refl W).drewN _), HBs.out.kept ((Kept.refl W).drewN _)⟩
              case measure => omega
            | false =>
              simp only [hs, Bool.not_false] at hne
              have HZ : Hid (sameS L cs ts L cs' ts' = false) := by show _ = _; rw [HS.out, HE.out, hs, if_neg (by simp)]; rfl
              clear hs HE
              go_wp2_with fail
              go_quiet (fail)
              go_wp2_with fail
              go_ret
              rw [HZ.out]
              exact ⟨rfl, K.drewN _⟩
          · have b1 : ¬ (j : Int) < (cs.length : Int) := by omega
            have HS2 : Hid (sameS L cs ts L cs' ts' = sameTs ts ts') := by
              show _ = _
              rw [HS.out, ← HI.out, List.drop_of_length_le (by omega), List.drop_of_length_le (by have := HLC.out; omega)]
              rfl
            clear HS HI
            go_wp2_with fail
            go_loopg [6] ts.length (fun gk i wr => ∃ (j : Nat) (W : World), W = wr ∧ i = .int .i64 j ∧ j + gk = ts.length ∧ Hid (sameTs (ts.drop j) (ts'.drop j) = sameTs ts ts') ∧ Kept w W ∧ Hid (Box w.heap.size W 47 w.heap.size [.int .i64 L, .slice ca cs.length cc, .slice ta ts.length tc]) ∧ Hid (Box w.heap.size W 47 (w.heap.size + 1) [.int .i64 L, .slice ca' cs.length cc', .slice ta' ts.length tc']))
            case atStart => exact ⟨0, _, rfl, rfl, by omega, rfl, K, HBr, HBs⟩
            case round =>
              obtain ⟨q, W3, hW, rfl, hq, HI, KQ, HBq, HBt⟩ := hrel
              subst hW
              have s2 : W3.cell? ⟨w.heap.size, 2, none⟩ = some (.slice ta ts.length tc) := HBq.out.cell 2 (by simp)
              by_cases hqt : q < ts.length
              · obtain ⟨b, f, nm, pd, dl, bu, pr, pa, pc, rfl, hpj, g0, g1, g2, g3, g4, _, hat, _, e3⟩ := (HA.out.kept KQ).get q hqt
                obtain ⟨b', f', nm', pd', dl', bu', pr', pa', pc', rfl, _, g0', g1', g2', g3', g4', _, hat', _, e3'⟩ := (HA'.out.kept KQ).get q (by rw [← HLT.out]; exact hqt)
                obtain ⟨_, ho2, ho3⟩ := HO.out _ (List.mem_of_getElem? hpj)
                simp only at ho2 ho3
                have b1 : (q : Int) < (ts.length : Int) := by omega
                have b2 : (0 : Int) ≤ (q : Int) := by omega
                have b3 : (q : Int) < (ts'.length : Int) := by have := HLT.out; omega
                have KA := (Kept.refl W3).alloc (.cells #[.string (B nm), .int .i64 pd, .int .i64 dl, .int .i64 bu, .slice pa pr.length pc] 74)
                have KAB := KA.alloc (.cells #[.string (B nm'), .int .i64 pd', .int .i64 dl', .int .i64 bu', .slice pa' pr'.length pc'] 74)
                have z2 : (W3.alloc (.cells #[.string (B nm), .int .i64 pd, .int .i64 dl, .int .i64 bu, .slice pa pr.length pc] 74)).cell? ⟨w.heap.size + 1, 2, none⟩ = some (.slice (some ⟨b', f', none⟩) ts.length tc') := (HBt.out.kept KA).cell 2 (by simp)
                have x0 := KA.cell g0'
                have x1 := KA.cell g1'
                have x2 := KA.cell g2'
                have x3 := KA.cell g3'
                have x4 := KA.cell g4'
                have HSP : Hid (RunB 24 #[.slice pa pr.length pc, .slice pa' pr'.length pc'] ((W3.alloc (.cells #[.string (B nm), .int .i64 pd, .int .i64 dl, .int .i64 bu, .slice pa pr.length pc] 74)).alloc (.cells #[.string (B nm'), .int .i64 pd', .int .i64 dl', .int .i64 bu', .slice pa' pr'.length pc'] 74)) (.bool (sameP pr pr'))) := ⟨fun wx kx => rsameP_any pa pa' pc pc' pr pr' wx (hat.kept (KAB.trans kx)) (hat'.kept (KAB.trans kx)) ho2 ho3⟩
                have HE : Hid (sameTs ts ts' = if sameT ⟨nm, pd, dl, bu, pr⟩ ⟨nm', pd', dl', bu', pr'⟩ = true then sameTs (ts.drop (q + 1)) (ts'.drop (q + 1)) else false) := by show _ = _; rw [← HI.out, e3, e3']; rfl
                have HTI : Hid (sameT ⟨nm, pd, dl, bu, pr⟩ ⟨nm', pd', dl', bu', pr'⟩ = true ↔ nm = nm' ∧ pd = pd' ∧ dl = dl' ∧ bu = bu' ∧ sameP pr pr' = true) := sameT_iff _ _
                have BAD : Hid (¬ (nm = nm' ∧ pd = pd' ∧ dl = dl' ∧ bu = bu' ∧ sameP pr pr' = true) → sameS L cs ts L cs' ts' = false) := by
                  intro h
                  rw [HS2.out, HE.out, if_neg (fun e => h (HTI.out.1 e))]
                have KW := KQ.trans KAB
                obtain ⟨gi, rfl⟩ : ∃ g, gk = g + 1 := ⟨gk - 1, by omega⟩
                clear hpj hat hat' e3 e3' HI
                by_cases c0 : ¬ nm = nm'
                · have e10 : ((B nm).toList == (B nm').toList) = false := by rw [B_eq]; simp [c0]
                  have HZ : Hid (sameS L cs ts L cs' ts' = false) := BAD.out (fun h => c0 h.1)
                  clear BAD HE HTI HSP
                  go_wp2_with fail
                  go_ret
                  rw [HZ.out]
                  exact ⟨rfl, KW⟩
                replace c0 := Classical.not_not.1 c0
                have e10 : ((B nm).toList == (B nm').toList) = true := by rw [B_eq]; simp [c0]
                by_cases c1 : ¬ pd = pd'
                · have e11 : (pd != pd') = true := by simp [c1]
                  have HZ : Hid (sameS L cs ts L cs' ts' = false) := BAD.out (fun h => c1 h.2.1)
                  clear BAD HE HTI HSP c0
                  go_wp2_with fail
                  go_ret
                  rw [HZ.out]
                  exact ⟨rfl, KW⟩
                replace c1 := Classical.not_not.1 c1
                have e11 : (pd != pd') = false := by simp [c1]
                by_cases c2 : ¬ dl = dl'
                · have e12 : (dl != dl') = true := by simp [c2]
                  have HZ : Hid (sameS L cs ts L cs' ts' = false) := BAD.out (fun h => c2 h.2.2.1)
                  clear BAD HE HTI HSP c0 c1
                  go_wp2_with fail
                  go_ret
                  rw [HZ.out]
                  exact ⟨rfl, KW⟩
                replace c2 := Classical.not_not.1 c2
                have e12 : (dl != dl') = false := by simp [c2]
                by_cases c3 : ¬ bu = bu'
                · have e13 : (bu != bu') = true := by simp [c3]
                  have HZ : Hid (sameS L cs ts L cs' ts' = false) := BAD.out (fun h => c3 h.2.2.2.1)
                  clear BAD HE HTI HSP c0 c1 c2
                  go_wp2_with fail
                  go_ret
                  rw [HZ.out]
                  exact ⟨rfl, KW⟩
                replace c3 := Classical.not_not.1 c3
                have e13 : (bu != bu') = false := by simp [c3]
                obtain ⟨z, hz⟩ : ∃ z, sameP pr pr' = z := ⟨_, rfl⟩
                rw [hz] at HSP
                cases z with
                | false =>
                  have HZ : Hid (sameS L cs ts L cs' ts' = false) := BAD.out (fun h => by rw [hz] at h; simp at h)
                  clear BAD HE HTI hz c0 c1 c2 c3
                  go_wp2_with fail
                  refine (HSP.out.run _ (Kept.refl _)).mono ?_
                  rintro e w9 ⟨rfl, t9⟩
                  go_wp2_with fail
                  go_ret
                  rw [HZ.out]
                  exact ⟨rfl, KW.trans t9⟩
                | true =>
                  have HX : Hid (sameTs (ts.drop (q + 1)) (ts'.drop (q + 1)) = sameTs ts ts') := by show _ = _; rw [HE.out, if_pos (HTI.out.2 ⟨c0, c1, c2, c3, hz⟩)]
                  clear BAD HE HTI hz c0 c1 c2 c3
                  go_wp2_with fail
                  refine (HSP.out.run _ (Kept.refl _)).mono ?_
                  rintro e w9 ⟨rfl, t9⟩
                  have T9 := KAB.trans t9
                  go_wp2_with fail
                  go_roundg gi
                  case rel => exact ⟨q + 1, _, rfl, by go_num, by omega, HX, KW.trans t9, HBq.out.kept T9, HBt.out.kept T9⟩
                  case measure => omega
              · have b1 : ¬ (q : Int) < (ts.length : Int) := by omega
                have HZ : Hid (sameS L cs ts L cs' ts' = true) := by
                  show _ = _
                  rw [HS2.out, ← HI.out, List.drop_of_length_le (by omega), List.drop_of_length_le (by have := HLT.out; omega)]
                  rfl
                go_wp2_with fail
                go_ret
                rw [HZ.out]
                exact ⟨rfl, KQ⟩
      · have e1 : (L != L') = false := by simp [hL]
        have e2 : ((cs.length : Int) != (cs'.length : Int)) = false := by simp [hcs]
        have e3 : ((ts.length : Int) != (ts'.length : Int)) = true := bne_iff_ne.2 (by omega)
        have HZ : Hid (sameS L cs ts L' cs' ts' = false) := by show _ = _; unfold sameS; rw [sameTs_len ts ts' hts, Bool.and_false]
        clear hL hcs hts
        go_enter Tryz.func10, Tryz.ntmps10
        go_wp2_with fail
        go_ret
        rw [HZ.out]
        exact ⟨rfl, K2⟩
    · have e1 : (L != L') = false := by simp [hL]
      have e2 : ((cs.length : Int) != (cs'.length : Int)) = true := bne_iff_ne.2 (by omega)
      have HZ : Hid (sameS L cs ts L' cs' ts' = false) := by show _ = _; unfold sameS; rw [sameCs_len cs cs' hcs, Bool.and_false, Bool.false_and]
      clear hL hcs
      go_enter Tryz.func10, Tryz.ntmps10
      go_wp2_with fail
      go_ret
      rw [HZ.out]
      exact ⟨rfl, K2⟩
  · have e1 : (L != L') = true := by simp [hL]
    have HZ : Hid (sameS L cs ts L' cs' ts' = false) := by show _ = _; unfold sameS; rw [beq_eq_false_iff_ne.2 hL]; rfl
    clear hL
    go_enter Tryz.func10, Tryz.ntmps10
    go_wp2_with fail
    go_ret
    rw [HZ.out]
    exact ⟨rfl, K2⟩
end Go.Proofs.YtolljdomnohmdabGreatDoor
