/- What a reader of lines holds in memory, and how it grows. -/
import Derived.ProofKit
import Derived.OpenShut
import Derived.ShutString
import Derived.ChangeOld
import Derived.ChangeArms
import Derived.WideShapes
import Derived.Below
import Derived.Deep.Slices
import Derived.Deep.SlicePairs
import Derived.Test.YtolljdomnohmdabGreatDoorM13
import Derived.Test.YtolljdomnohmdabGreatDoorM2
import Derived.Test.YtolljdomnohmdabGreatDoorCas
import Derived.Test.YtolljdomnohmdabGreatDoorCheck
import Derived.Test.YtolljdomnohmdabGreatDoorM3
import Derived.Test.YtolljdomnohmdabGreatDoorM4
import Derived.Test.YtolljdomnohmdabGreatDoorM0
import Derived.Test.YtolljdomnohmdabGreatDoorM1
import Derived.Test.YtolljdomnohmdabGreatDoorOpT
import Derived.Test.YtolljdomnohmdabGreatDoorPar
import Derived.Test.YtolljdomnohmdabGreatDoorM7
import Derived.Test.YtolljdomnohmdabGreatDoorTxt
import Derived.Test.YtolljdomnohmdabGreatDoorRWrd
import Derived.Test.YtolljdomnohmdabGreatDoorM5
import Derived.Test.YtolljdomnohmdabGreatDoorRead
import Derived.Test.YtolljdomnohmdabGreatDoorM8
import Derived.Test.YtolljdomnohmdabGreatDoorTrn
import Derived.Test.YtolljdomnohmdabGreatDoorM14
namespace Go.Proofs.YtolljdomnohmdabGreatDoor
open Go.RowKit Go.Shelf

/-- What may turn while older tasks' programs stay. -/
def SX (B rb : Nat) (hv tv : Value) (Bp : Nat) (k : Nat) : Prop := k = rb ∨ hv.ownBlock = some k ∨ tv.ownBlock = some k ∨ Bp ≤ k ∨ k < B
/-- What a reader holds in memory. -/
structure RS (B rb : Nat) (w : World) (s : RdD) (hv tv : Value) (pvs : List Value) (Bp : Nat) : Prop where
  box : Box B w 83 rb [.int .i64 s.L, hv, tv, .bool s.bg]
  hrow : HRow B w hv s.cs
  len : pvs.length = s.ts.length
  trow : w.ownsRow B 33 5 tv s.ts.length (flatT s.ts pvs)
  lowr : rb < Bp
  lowh : ∀ k, hv.ownBlock = some k → k < Bp ∧ k ≠ rb
  lowt : ∀ k, tv.ownBlock = some k → k < Bp ∧ k ≠ rb ∧ hv.ownBlock ≠ some k
  hB : B ≤ Bp ∧ Bp ≤ w.heap.size
  last : ∀ (j : Nat) (t : TaskD) (v : Value), j + 1 = s.ts.length → s.ts[j]? = some t → pvs[j]? = some v → ∃ svs, ORow Bp w v t.prog svs
  old : ∀ (j : Nat) (t : TaskD) (v : Value), j + 1 < s.ts.length → s.ts[j]? = some t → pvs[j]? = some v → ∃ pa pc, v = .slice pa t.prog.length pc ∧ t.prog.length ≤ pc ∧ ∀ w', Turns (SX B rb hv tv Bp) w w' → AtP w' pa t.prog
theorem set_size (w : World) (p : Addr) (v : Value) : (w.setCell p v).heap.size = w.heap.size := by simp [World.setCell]
theorem own_g (g n c : Nat) : ∀ q, (Value.slice (some ⟨g, 0, none⟩) n c).ownBlock = some q → q = g := fun q hq => by simp [Value.ownBlock] at hq; exact hq.symm
theorem RS.kept {B rb : Nat} {w w' : World} {s : RdD} {hv tv : Value} {pvs : List Value} {Bp : Nat} (h : RS B rb w s hv tv pvs Bp) (k : Kept w w') : RS B rb w' s hv tv pvs Bp :=
  ⟨h.box.kept k, h.hrow.kept k, h.len, own_kept h.trow k, h.lowr, h.lowh, h.lowt, ⟨h.hB.1, Nat.le_trans h.hB.2 k.size⟩,
   fun j t v h1 h2 h3 => by obtain ⟨svs, o⟩ := h.last j t v h1 h2 h3; exact ⟨svs, o.kept k⟩,
   fun j t v h1 h2 h3 => by
    obtain ⟨pa, pc, e1, e2, e3⟩ := h.old j t v h1 h2 h3
    exact ⟨pa, pc, e1, e2, fun w2 t2 => e3 w2 ((k.turns.mono (fun _ _ f => f.elim)).trans t2)⟩⟩
theorem RS.view {B rb : Nat} {w : World} {s : RdD} {hv tv : Value} {pvs : List Value} {Bp : Nat} (h : RS B rb w s hv tv pvs Bp) : ∃ ha hc ta tc, hv = .slice ha s.cs.length hc ∧ tv = .slice ta s.ts.length tc ∧ AtH w ha s.cs ∧ AtT w ta s.ts := by
  obtain ⟨ha, hc, e1, e2, _⟩ := h.hrow.view
  have hrow := h.trow
  rcases hrow.2 with ⟨h1, h2⟩ | ⟨g, cap, cur, h1, hb, _⟩
  · refine ⟨ha, hc, none, 0, e1, by rw [h1, h2], e2, ?_⟩
    rw [List.eq_nil_of_length_eq_zero h2]
    exact AtT.nil _ _
  · refine ⟨ha, hc, some ⟨g, 0, none⟩, cap, e1, h1, e2, ?_⟩
    intro j t hj
    have hj2 := (List.getElem?_eq_some_iff.1 hj).1
    obtain ⟨pv, hpv⟩ : ∃ pv, pvs[j]? = some pv := ⟨_, List.getElem?_eq_getElem (by rw [h.len]; exact hj2)⟩
    have hp : ∃ pa pc, pv = .slice pa t.prog.length pc ∧ t.prog.length ≤ pc ∧ AtP w pa t.prog := by
      by_cases hl : j + 1 < s.ts.length
      · obtain ⟨pa, pc, f1, f2, f3⟩ := h.old j t pv hl hj hpv
        exact ⟨pa, pc, f1, f2, f3 w (Turns.refl _ _)⟩
      · obtain ⟨svs, o⟩ := h.last j t pv (by omega) hj hpv
        obtain ⟨a, c, f1, f2, _, f3⟩ := o.view
        exact ⟨a, c, f1, f2, f3⟩
    obtain ⟨pa, pc, f1, f2, f3⟩ := hp
    rw [h1] at hrow
    refine ⟨g, 0, rfl, ?_⟩
    have hc : ∀ i, i < 5 → w.cell? ⟨g, 0 + j * 5 + i, none⟩ = (tkW t pv)[i]? := by
      intro i hi
      rw [Nat.zero_add, hrow.cellAt (j * 5 + i) (by omega), flatT_get s.ts pvs j i t pv hj hpv hi]
    refine ⟨hc 0 (by omega), hc 1 (by omega), hc 2 (by omega), hc 3 (by omega), pa, pc, ?_, f2, f3⟩
    rw [hc 4 (by omega), ← f1]
    rfl
/-- Older blocks may turn. -/
theorem RS.low {B rb : Nat} {w w' : World} {s : RdD} {hv tv : Value} {pvs : List Value} {Bp : Nat} (h : RS B rb w s hv tv pvs Bp) {S : Nat → Prop} (t : Turns S w w') (hS : ∀ k, S k → k < B) : RS B rb w' s hv tv pvs Bp :=
  ⟨h.box.turns t (fun e => by have := hS rb e; have := h.box.lt.1; omega), h.hrow.turns t (fun q hq e => by have := hS q e; have := (World.ownsRow.lt h.hrow q hq).1; omega), h.len, owns_turns h.trow t (fun q hq e => by have := hS q e; have := (World.ownsRow.lt h.trow q hq).1; omega), h.lowr, h.lowh, h.lowt, ⟨h.hB.1, Nat.le_trans h.hB.2 t.size⟩,
   fun j u v h1 h2 h3 => by
    obtain ⟨svs, o⟩ := h.last j u v h1 h2 h3
    exact ⟨svs, o.turns t (fun q e => by have := hS q e; have := h.hB.1; omega)⟩,
   fun j u v h1 h2 h3 => by
    obtain ⟨pa, pc, e1, e2, e3⟩ := h.old j u v h1 h2 h3
    exact ⟨pa, pc, e1, e2, fun w2 t2 => e3 w2 ((t.mono (fun k _ e => .inr (.inr (.inr (.inr (hS k e)))))).trans t2)⟩⟩
/-- The line of the locks. -/
theorem RS.lock {B rb : Nat} {w : World} {s : RdD} {hv tv : Value} {pvs : List Value} {Bp : Nat} (h : RS B rb w s hv tv pvs Bp) (n : Int) : RS B rb ((w.setCell ⟨rb, 0, none⟩ (.int .i64 n)).setCell ⟨rb, 3, none⟩ (.bool true)) ⟨n, true, s.cs, s.ts⟩ hv tv pvs Bp := by
  have t : Turns (fun k => k = rb) w ((w.setCell ⟨rb, 0, none⟩ (.int .i64 n)).setCell ⟨rb, 3, none⟩ (.bool true)) := (turn_set w rb 0 _).trans (turn_set _ rb 3 _)
  have hr := h.lowr
  refine ⟨(h.box.set 0 (.int .i64 n)).set 3 (.bool true), h.hrow.turns t (fun q hq e => (h.lowh q hq).2 e), h.len, owns_turns h.trow t (fun q hq e => (h.lowt q hq).2.1 e), h.lowr, h.lowh, h.lowt, ⟨h.hB.1, Nat.le_trans h.hB.2 t.size⟩, fun j u v h1 h2 h3 => ?_, fun j u v h1 h2 h3 => ?_⟩
  · obtain ⟨svs, o⟩ := h.last j u v h1 h2 h3
    exact ⟨svs, o.turns t (fun q e => by omega)⟩
  · obtain ⟨pa, pc, e1, e2, e3⟩ := h.old j u v h1 h2 h3
    exact ⟨pa, pc, e1, e2, fun w2 t2 => e3 w2 ((t.mono (fun _ _ f => .inl f)).trans t2)⟩
/-- One channel more, where there is no task yet. -/
theorem RS.chan {B rb : Nat} {w w5 : World} {s : RdD} {hv tv : Value} {pvs : List Value} {Bp : Nat} (h : RS B rb w s hv tv pvs Bp) (hts : s.ts = []) (c : ChanD) (g n cap : Nat) (R : HRow B w5 (.slice (some ⟨g, 0, none⟩) n cap) (s.cs ++ [c])) (t5 : Turns (fun k => hv.ownBlock = some k) w w5) (hg : hv.ownBlock = some g ∨ w.heap.size < g) :
    RS B rb (w5.setCell ⟨rb, 1, none⟩ (.slice (some ⟨g, 0, none⟩) n cap)) ⟨s.L, s.bg, s.cs ++ [c], s.ts⟩ (.slice (some ⟨g, 0, none⟩) n cap) tv pvs w5.heap.size := by
  have hrb := h.box.lt
  have hsz := t5.size
  have hgr : g ≠ rb := by
    rcases hg with e | e
    · exact (h.lowh g e).2
    · omega
  have hgl := World.ownsRow.lt R g rfl
  have b5 := h.box.turns t5 (fun e => (h.lowh rb e).2 rfl)
  have ts5 := turn_set w5 rb 1 (.slice (some ⟨g, 0, none⟩) n cap)
  have hB := h.hB
  refine ⟨b5.set 1 _, R.turns ts5 (fun q hq e => hgr (by rw [← own_g g n cap q hq, e])), h.len, ?_, by omega, fun k hk => ?_, fun k hk => ?_, ⟨by omega, by rw [set_size]; exact Nat.le_refl _⟩, fun j u v h1 h2 h3 => ?_, fun j u v h1 h2 h3 => ?_⟩
  · exact owns_turns (owns_turns h.trow t5 (fun q hq e => (h.lowt q hq).2.2 e)) ts5 (fun q hq e => (h.lowt q hq).2.1 e)
  · rw [own_g g n cap k hk]
    exact ⟨hgl.2, hgr⟩
  · have h1 := h.lowt k hk
    refine ⟨by omega, h1.2.1, fun e => ?_⟩
    have e2 := own_g g n cap k e
    subst e2
    rcases hg with e3 | e3
    · exact h1.2.2 e3
    · omega
  · rw [hts] at h2; simp at h2
  · rw [hts] at h2; simp at h2
/-- One task more. -/
theorem RS.task {B rb : Nat} {w w5 : World} {s : RdD} {hv tv : Value} {pvs : List Value} {Bp : Nat} (h : RS B rb w s hv tv pvs Bp) (t : TaskD) (ht : t.prog = []) (g n cap : Nat) (hn : n = s.ts.length + 1) (R : w5.ownsRow B 33 5 (.slice (some ⟨g, 0, none⟩) n cap) n (flatT (s.ts ++ [t]) (pvs ++ [.slice none 0 0]))) (t5 : Turns (fun k => tv.ownBlock = some k) w w5) (hg : tv.ownBlock = some g ∨ w.heap.size < g) :
    RS B rb (w5.setCell ⟨rb, 2, none⟩ (.slice (some ⟨g, 0, none⟩) n cap)) ⟨s.L, s.bg, s.cs, s.ts ++ [t]⟩ hv (.slice (some ⟨g, 0, none⟩) n cap) (pvs ++ [.slice none 0 0]) w5.heap.size := by
  have hrb := h.box.lt
  have hsz := t5.size
  have hB := h.hB
  have hgr : g ≠ rb := by
    rcases hg with e | e
    · exact (h.lowt g e).2.1
    · omega
  have hgl := World.ownsRow.lt R g rfl
  have b5 := h.box.turns t5 (fun e => (h.lowt rb e).2.1 rfl)
  have ts5 := turn_set w5 rb 2 (.slice (some ⟨g, 0, none⟩) n cap)
  -- the whole way of the step, seen by what is older
  have step : ∀ {S : Nat → Prop} {w' : World}, (∀ k, k < w.heap.size → (k = rb ∨ hv.ownBlock = some k ∨ tv.ownBlock = some k ∨ k < B) → S k) → Turns (SX B rb hv (.slice (some ⟨g, 0, none⟩) n cap) w5.heap.size) (w5.setCell ⟨rb, 2, none⟩ (.slice (some ⟨g, 0, none⟩) n cap)) w' → Turns S w w' := by
    intro S w' hS k
    refine ((t5.mono (fun i hi e => hS i hi (.inr (.inr (.inl e))))).next ts5 (fun i hi e => hS i hi (.inl e))).next k (fun i hi e => ?_)
    rcases e with e | e | e | e | e
    · exact hS i hi (.inl e)
    · exact hS i hi (.inr (.inl e))
    · have e2 := own_g g n cap i e
      subst e2
      rcases hg with e3 | e3
      · exact hS i hi (.inr (.inr (.inl e3)))
      · omega
    · omega
    · exact hS i hi (.inr (.inr (.inr e)))
  refine ⟨b5.set 2 _, ?_, by rw [List.length_append, List.length_append, h.len]; rfl, ?_, by omega, fun k hk => ⟨by have := (h.lowh k hk).1; omega, (h.lowh k hk).2⟩, fun k hk => ?_, ⟨by omega, by rw [set_size]; exact Nat.le_refl _⟩, fun j u v h1 h2 h3 => ?_, fun j u v h1 h2 h3 => ?_⟩
  · exact (h.hrow.turns t5 (fun q hq e => (h.lowt q e).2.2 hq)).turns ts5 (fun q hq e => (h.lowh q hq).2 e)
  · have e : (s.ts ++ [t]).length = n := by rw [List.length_append, hn]; rfl
    show (w5.setCell ⟨rb, 2, none⟩ (.slice (some ⟨g, 0, none⟩) n cap)).ownsRow B 33 5 _ (s.ts ++ [t]).length _
    rw [e]
    exact owns_turns R ts5 (fun q hq e => hgr (by rw [← own_g g n cap q hq, e]))
  · rw [own_g g n cap k hk]
    refine ⟨hgl.2, hgr, fun e => ?_⟩
    rcases hg with e3 | e3
    · exact (h.lowt g e3).2.2 e
    · have := (h.lowh g e).1; omega
  · simp only [List.length_append, List.length_singleton] at h1
    have hj : j = s.ts.length := by omega
    subst hj
    rw [List.getElem?_append_right (Nat.le_refl _), Nat.sub_self] at h2
    rw [List.getElem?_append_right (by rw [h.len]; exact Nat.le_refl _), h.len, Nat.sub_self] at h3
    simp at h2 h3
    subst h2 h3
    rw [ht]
    exact ⟨[], ORow.nil _ _⟩
  · simp only [List.length_append, List.length_singleton] at h1
    rw [List.getElem?_append_left (by omega)] at h2
    rw [List.getElem?_append_left (by rw [h.len]; omega)] at h3
    by_cases hl : j + 1 < s.ts.length
    · obtain ⟨pa, pc, e1, e2, e3⟩ := h.old j u v hl h2 h3
      refine ⟨pa, pc, e1, e2, fun w2 t2 => e3 w2 (step (fun k _ e => ?_) t2)⟩
      rcases e with e | e | e | e
      · exact .inl e
      · exact .inr (.inl e)
      · exact .inr (.inr (.inl e))
      · exact .inr (.inr (.inr (.inr e)))
    · obtain ⟨svs, o⟩ := h.last j u v (by omega) h2 h3
      obtain ⟨a, c, f1, f2, _, _⟩ := o.view
      refine ⟨a, c, f1, f2, fun w2 t2 => ?_⟩
      have t3 : Turns (fun k => k = rb ∨ hv.ownBlock = some k ∨ tv.ownBlock = some k ∨ k < B) w w2 := step (fun k _ e => e) t2
      have o2 := o.turns t3 (fun q e => by
        have h1 := h.lowr
        rcases e with e | e | e | e
        · omega
        · have := (h.lowh q e).1; omega
        · have := (h.lowt q e).1; omega
        · omega)
      obtain ⟨a', c', f1', _, _, f3'⟩ := o2.view
      rw [f1] at f1'
      rw [(Value.slice.inj f1').1]
      exact f3'
theorem flatT_prg : ∀ (p : List TaskD) (r : List Value) (t : TaskD) (x : Value) (q : List OpD) (v : Value), r.length = p.length → (flatT (p ++ [t]) (r ++ [x])).set (p.length * 5 + 4) v = flatT (p ++ [{ t with prog := q }]) (r ++ [v])
  | [], [], t, x, q, v, _ => by simp [flatT, tkW]
  | [], _ :: _, _, _, _, _, h => by simp at h
  | _ :: _, [], _, _, _, _, h => by simp at h
  | c :: p, y :: r, t, x, q, v, h => by
    have ih := flatT_prg p r t x q v (by simpa using h)
    simp only [List.cons_append, flatT, List.length_cons]
    rw [← ih, List.set_append_right _ _ (by simp [tkW]; omega)]
    congr 2
    simp [tkW]
    omega
/-- One op more of the last task. -/
theorem RS.op {B rb : Nat} {w w5 : World} {s : RdD} {hv : Value} {pv : Value} {pvs : List Value} {Bp tb tc : Nat} {ts : List TaskD} {t : TaskD} (hts : s.ts = ts ++ [t]) (hl : pvs.length = ts.length) (h : RS B rb w s hv (.slice (some ⟨tb, 0, none⟩) (ts.length + 1) tc) (pvs ++ [pv]) Bp) (o : OpD) (svs : List Value) (g n cap : Nat) (R : ORow Bp w5 (.slice (some ⟨g, 0, none⟩) n cap) (t.prog ++ [o]) svs) (t5 : Turns (fun k => pv.ownBlock = some k) w w5) :
    RS B rb (w5.setCell ⟨tb, ts.length * 5 + 4, none⟩ (.slice (some ⟨g, 0, none⟩) n cap)) ⟨s.L, s.bg, s.cs, putOp s.ts o⟩ hv (.slice (some ⟨tb, 0, none⟩) (ts.length + 1) tc) (pvs ++ [.slice (some ⟨g, 0, none⟩) n cap]) Bp := by
  obtain ⟨sL, sb, scs, sts⟩ := s
  simp only at hts
  subst hts
  have hsz := t5.size
  have hB := h.hB
  have hrb := h.lowr
  have htb := h.lowt tb rfl
  obtain ⟨svs0, O0⟩ := h.last ts.length t pv (by simp) (by simp) (by rw [← hl]; simp)
  have hpv : ∀ k, pv.ownBlock = some k → Bp ≤ k := fun k e => (O0.lt k e).1
  have ts5 := turn_set w5 tb (ts.length * 5 + 4) (.slice (some ⟨g, 0, none⟩) n cap)
  rw [putOp_app]
  refine ⟨(h.box.turns t5 (fun e => by have := hpv rb e; omega)).turns ts5 (fun e => htb.2.1 e.symm), (h.hrow.turns t5 (fun q hq e => by have := hpv q e; have := (h.lowh q hq).1; omega)).turns ts5 (fun q hq e => htb.2.2 (by rw [← e]; exact hq)), by simp [hl], ?_, h.lowr, h.lowh, h.lowt, ⟨hB.1, by rw [set_size]; omega⟩, fun j u v h1 h2 h3 => ?_, fun j u v h1 h2 h3 => ?_⟩
  · have r5 : w5.ownsRow B 33 5 (.slice (some ⟨tb, 0, none⟩) (ts.length + 1) tc) (ts.length + 1) (flatT (ts ++ [t]) (pvs ++ [pv])) := by
      have := owns_turns h.trow t5 (fun q hq e => by have := hpv q e; have e2 := own_g _ _ _ q hq; omega)
      simpa only [List.length_append, List.length_singleton] using this
    have r6 := (World.ownsRow.stored r5 (ts.length * 5 + 4) (.slice (some ⟨g, 0, none⟩) n cap)).1
    rw [flatT_prg ts pvs t pv (t.prog ++ [o]) _ hl] at r6
    simpa using r6
  · simp only [List.length_append, List.length_singleton] at h1
    have hj : j = ts.length := by omega
    subst hj
    rw [List.getElem?_append_right (Nat.le_refl _), Nat.sub_self] at h2
    rw [List.getElem?_append_right (by rw [hl]; exact Nat.le_refl _), hl, Nat.sub_self] at h3
    simp at h2 h3
    subst h2 h3
    exact ⟨svs, R.turns ts5 (fun q e => by omega)⟩
  · simp only [List.length_append, List.length_singleton] at h1
    have hj : j < ts.length := by omega
    rw [List.getElem?_append_left hj] at h2
    rw [List.getElem?_append_left (by rw [hl]; exact hj)] at h3
    obtain ⟨pa, pc, e1, e2, e3⟩ := h.old j u v (by simp; omega) (by simp only; rw [List.getElem?_append_left hj]; exact h2) (by rw [List.getElem?_append_left (by rw [hl]; exact hj)]; exact h3)
    refine ⟨pa, pc, e1, e2, fun w2 t2 => e3 w2 (((t5.mono (fun i _ e => .inr (.inr (.inr (.inl (hpv i e)))))).next ts5 (fun i _ e => .inr (.inr (.inl (by rw [e]; rfl))))).trans t2)⟩
/-- A task behind a row of tasks. -/
theorem step_append_tk2 (w : World) {ops : Array Oper} {o : Oper} {a : Act} {K : Act → World → Prop} {Q : Exit → Act → World → Prop} {E : Prop} (hgd : o.guard = none) (s x : Operand)
    (ho : o.op = .call { callee := .builtin .append, args := #[s, x], argTypes := #[25, 25] })
    (Bd : Nat) (v1 : Value) (ts : List TaskD) (pvs : List Value) (t : TaskD) (pv : Value) (hone : pv.oneCell' = true) (cells : Array Value) (hcells : cells = (tkW t pv).toArray) (W : World) (hw1 : w = W.alloc (.cells cells 33)) (hs : a.eval s = v1) (nb : Nat) (hnb : nb = W.heap.size) (hx : a.eval x = .slice (some ⟨nb, 0, none⟩) 1 1)
    (hlen : pvs.length = ts.length) (h1 : W.ownsRow Bd 33 5 v1 ts.length (flatT ts pvs)) (hl : ts.length ≤ 1000000) (hB : Bd ≤ W.heap.size)
    (h : ∀ g cap w', w'.ownsRow Bd 33 5 (.slice (some ⟨g, 0, none⟩) (ts.length + 1) cap) (ts.length + 1) (flatT (ts ++ [t]) (pvs ++ [pv])) → Turns (fun k => v1.ownBlock = some k) W w' → (v1.ownBlock = some g ∨ W.heap.size < g) → K (a.put o.dst (.slice (some ⟨g, 0, none⟩) (ts.length + 1) cap)) w') :
    if Region.wanted o (yielded ops a.tmps) = true then Oper.wp Tryz.prog o a w K Q else E := by
  have hw : Region.wanted o (yielded ops a.tmps) = true := by simp [Region.wanted, hgd]
  rw [if_pos hw]
  subst hw1
  subst hnb
  obtain ⟨i, hi, hz0, hz1, hz2⟩ := info_parts infoTk
  have hcc : ∀ j u, (tkW t pv)[j]? = some u → (W.alloc (.cells cells 33)).cell? (Addr.add ⟨W.heap.size, 0, none⟩ j) = some u := by
    intro j u hu
    rw [Addr.add_lit, Nat.zero_add, World.cell?_alloc_at _ _ _ _ rfl, hcells]
    simpa using hu
  have h1' : (W.alloc (.cells cells 33)).ownsRow Bd 33 5 v1 ts.length (flatT ts pvs) := World.ownsRow.alloc h1 _
  have hB' := le_alloc (.cells cells 33) hB
  obtain ⟨v', w', hr, k1, k2, k3, k4⟩ := run_append_own_at (P := Tryz.prog) (W.alloc (.cells cells 33)) Bd 25 o.type 33 i _ 5 64 Tryz.underlying25 hi hz0 hz1 hz2 rfl (by omega) _ ts.length (flatT ts pvs) h1' ⟨W.heap.size, 0, none⟩ 1 1 (tkW t pv) (by simp [tkW]) hcc (fun u hu => by simp [tkW] at hu; rcases hu with rfl | rfl | rfl | rfl | rfl <;> first | rfl | exact hone) (by unfold maxLen; omega) (by omega) hB'
  obtain ⟨g, cap, rfl⟩ := own_form k1 (fun e => by have := k3.1 e; have := this.2; omega)
  have tt : Turns (fun k => v1.ownBlock = some k) W w' := ((Turns.refl _ W).alloc _).trans (Turns.grown k2 (fun k e => e))
  have hg : v1.ownBlock = some g ∨ W.heap.size < g := by
    rcases k4 with k4 | k4
    · exact .inl k4.symm
    · right; simp [Value.ownBlock] at k4; omega
  unfold Oper.wp
  simp [execOp, ho, resolve, invoke, builtin, hs, hx, hr, Result.andThen]
  refine h g cap w' ?_ tt hg
  rw [flatT_append _ _ _ _ hlen]
  exact k1
end Go.Proofs.YtolljdomnohmdabGreatDoor
namespace Go.Proofs.YtolljdomnohmdabGreatDoor
open Go.RowKit Go.Shelf

def RSx (w0 : World) (rb : Nat) (w : World) (s : RdD) : Prop := ∃ hv tv pvs Bp, RS w0.heap.size rb w s hv tv pvs Bp
theorem RSx.kept {w0 w w' : World} {rb : Nat} {s : RdD} (h : RSx w0 rb w s) (k : Kept w w') : RSx w0 rb w' s := by
  obtain ⟨hv, tv, pvs, Bp, h⟩ := h
  exact ⟨hv, tv, pvs, Bp, h.kept k⟩
theorem At.word {w : World} {a : Option Addr} {n : Nat} {l : List (List UInt8)} (h : At w a n l) (j : Nat) (x : List UInt8) (hj : l[j]? = some x) : ∃ b f, a = some ⟨b, f, Option.none⟩ ∧ w.cell? ⟨b, f + j, Option.none⟩ = some (.string (B x)) := by
  have hlt := (List.getElem?_eq_some_iff.1 hj).1
  obtain ⟨b, f, e, hc⟩ := h.2 j (by rw [← h.1]; exact hlt)
  refine ⟨b, f, e, ?_⟩
  rw [hc, List.getD_eq_getElem?_getD, hj]
  rfl

set_option maxHeartbeats 4000000 in
theorem lastT_any (rb tb m tc : Nat) (w : World) (hc : w.cell? ⟨rb, 2, none⟩ = some (.slice (some ⟨tb, 0, none⟩) (m + 1) tc)) (hm : m ≤ 100) :
    Calls Tryz.prog 58 #[.pointer (some ⟨rb, 0, none⟩)] w fun e w' => e = .returned (.pointer (some ⟨tb, m * 5, none⟩)) ∧ Kept w w' := by
  have b1 : (0 : Int) ≤ (m : Int) := by omega
  have b2 : (m : Int) < ((m + 1 : Nat) : Int) := by omega
  have b3 : wrap64 (((m + 1 : Nat) : Int) - 1) = (m : Int) := by rw [show (((m + 1 : Nat) : Int) - 1) = (m : Int) by omega]; unfold wrap64; omega
  go_enter Tryz.func58, Tryz.ntmps58
  go_wp2_with fail
  go_quiet (fail)
  all_goals go_wp2_with fail
  all_goals go_ret
  all_goals exact ⟨by simp, (Kept.refl w).drewN _⟩

set_option maxHeartbeats 4000000 in
theorem may_any (rb : Nat) (s : RdD) (f : List UInt8) (ta : Option Addr) (tc : Nat) (w : World) (c1 : w.cell? ⟨rb, 3, none⟩ = some (.bool s.bg)) (c2 : w.cell? ⟨rb, 2, none⟩ = some (.slice ta s.ts.length tc)) :
    Calls Tryz.prog 45 #[.pointer (some ⟨rb, 0, none⟩), .string (B f)] w fun e w' => e = .returned (.bool (mayB s f)) ∧ Kept w w' := by
  obtain ⟨sL, sb, scs, sts⟩ := s
  simp only at c1 c2
  cases sb with
  | false =>
    by_cases h0 : f = locksW
    · have e0 : ((B f).toList == [108, 111, 99, 107, 115]) = true := by rw [B_is, h0]; rfl
      have HV : Hid (mayB ⟨sL, false, scs, sts⟩ f = true) := by show _ = _; rw [h0]; rfl
      clear h0
      go_enter Tryz.func45, Tryz.ntmps45
      go_wp2_with fail
      go_ret
      rw [HV.out]
      exact ⟨rfl, Kept.refl w⟩
    · have e0 : ((B f).toList == [108, 111, 99, 107, 115]) = false := by rw [B_is]; simpa [locksW] using h0
      have HV : Hid (mayB ⟨sL, false, scs, sts⟩ f = false) := by show _ = _; simpa [mayB] using h0
      clear h0
      go_enter Tryz.func45, Tryz.ntmps45
      go_wp2_with fail
      go_ret
      rw [HV.out]
      exact ⟨rfl, Kept.refl w⟩
  | true =>
    by_cases h1 : f = chanW
    · have e1 : ((B f).toList == [99, 104, 97, 110]) = true := by rw [B_is, h1]; rfl
      have HV : Hid (mayB ⟨sL, true, scs, sts⟩ f = sts.isEmpty) := by show _ = _; rw [h1]; rfl
      clear h1
      have e2 : ((sts.length : Int) == 0) = sts.isEmpty := by cases sts <;> simp <;> omega
      go_enter Tryz.func45, Tryz.ntmps45
      go_wp2_with fail
      go_ret
      rw [HV.out]
      exact ⟨by simp, Kept.refl w⟩
    · have e1 : ((B f).toList == [99, 104, 97, 110]) = false := by rw [B_is]; simpa [chanW] using h1
      by_cases h2 : f = taskW
      · have e2 : ((B f).toList == [116, 97, 115, 107]) = true := by rw [B_is, h2]; rfl
        have HV : Hid (mayB ⟨sL, true, scs, sts⟩ f = true) := by show _ = _; rw [h2]; rfl
        clear h1 h2
        go_enter Tryz.func45, Tryz.ntmps45
        go_wp2_with fail
        go_ret
        rw [HV.out]
        exact ⟨rfl, Kept.refl w⟩
      · have e2 : ((B f).toList == [116, 97, 115, 107]) = false := by rw [B_is]; simpa [taskW] using h2
        have HV : Hid (mayB ⟨sL, true, scs, sts⟩ f = (opWordB f && !sts.isEmpty)) := by show _ = _; simp [mayB, h1, h2]
        have hop := isOpWord_any f w
        obtain ⟨q, hq⟩ : ∃ q, opWordB f = q := ⟨_, rfl⟩
        rw [hq] at HV hop
        clear h1 h2 hq
        cases q with
        | false =>
          go_enter Tryz.func45, Tryz.ntmps45
          go_wp2_with fail
          refine hop.mono ?_
          rintro e w1 ⟨rfl, K1⟩
          go_wp2_with fail
          go_ret
          rw [HV.out]
          exact ⟨rfl, K1⟩
        | true =>
          by_cases h3 : sts = []
          · subst h3
            go_enter Tryz.func45, Tryz.ntmps45
            go_wp2_with fail
            refine hop.mono ?_
            rintro e w1 ⟨rfl, K1⟩
            have k2 := K1.cell c2
            go_wp2_with fail
            go_ret
            rw [HV.out]
            exact ⟨rfl, K1⟩
          · have h4 : 0 < sts.length := List.length_pos_iff.2 h3
            have h5 : (0 : Int) < (sts.length : Int) := by omega
            have HE : Hid (sts.isEmpty = false) := by show _ = _; simpa using h3
            clear h3
            go_enter Tryz.func45, Tryz.ntmps45
            go_wp2_with fail
            refine hop.mono ?_
            rintro e w1 ⟨rfl, K1⟩
            have k2 := K1.cell c2
            go_wp2_with fail
            go_ret
            rw [HV.out, HE.out]
            exact ⟨rfl, K1⟩

set_option maxHeartbeats 4000000 in
theorem full_any (rb : Nat) (s : RdD) (f : List UInt8) (ha ta : Option Addr) (hc tc : Nat) (w : World) (c1 : w.cell? ⟨rb, 1, none⟩ = some (.slice ha s.cs.length hc)) (c2 : w.cell? ⟨rb, 2, none⟩ = some (.slice ta s.ts.length tc))
    (hlast : f ≠ locksW → f ≠ chanW → f ≠ taskW → ∃ tb m pa pc, s.ts.length = m + 1 ∧ ta = some ⟨tb, 0, none⟩ ∧ m ≤ 100 ∧ w.cell? ⟨tb, m * 5 + 4, none⟩ = some (.slice pa (lastP s.ts).length pc)) :
    Calls Tryz.prog 46 #[.pointer (some ⟨rb, 0, none⟩), .string (B f)] w fun e w' => e = .returned (.bool (fullB s f)) ∧ Kept w w' := by
  by_cases h0 : f = locksW
  · have e0 : ((B f).toList == [108, 111, 99, 107, 115]) = true := by rw [B_is, h0]; rfl
    have HV : Hid (fullB s f = false) := by show _ = _; unfold fullB; rw [if_pos h0]
    clear h0 hlast
    go_enter Tryz.func46, Tryz.ntmps46
    go_wp2_with fail
    go_ret
    rw [HV.out]
    exact ⟨rfl, Kept.refl w⟩
  have e0 : ((B f).toList == [108, 111, 99, 107, 115]) = false := by rw [B_is]; simpa [locksW] using h0
  by_cases h1 : f = chanW
  · have e1 : ((B f).toList == [99, 104, 97, 110]) = true := by rw [B_is, h1]; rfl
    have e2 : ((s.cs.length : Int) == 8) = (s.cs.length == 8) := by
      rw [Bool.eq_iff_iff, beq_iff_eq, beq_iff_eq]; omega
    have HV : Hid (fullB s f = ((s.cs.length : Int) == 8)) := by show _ = _; rw [e2]; unfold fullB; rw [if_neg h0, if_pos h1]
    clear h0 h1 hlast e2
    go_enter Tryz.func46, Tryz.ntmps46
    go_wp2_with fail
    go_ret
    rw [HV.out]
    exact ⟨rfl, Kept.refl w⟩
  have e1 : ((B f).toList == [99, 104, 97, 110]) = false := by rw [B_is]; simpa [chanW] using h1
  by_cases h2 : f = taskW
  · have e2 : ((B f).toList == [116, 97, 115, 107]) = true := by rw [B_is, h2]; rfl
    have e3 : ((s.ts.length : Int) == 12) = (s.ts.length == 12) := by
      rw [Bool.eq_iff_iff, beq_iff_eq, beq_iff_eq]; omega
    have HV : Hid (fullB s f = ((s.ts.length : Int) == 12)) := by show _ = _; rw [e3]; unfold fullB; rw [if_neg h0, if_neg h1, if_pos h2]
    clear h0 h1 h2 hlast e3
    go_enter Tryz.func46, Tryz.ntmps46
    go_wp2_with fail
    go_ret
    rw [HV.out]
    exact ⟨rfl, Kept.refl w⟩
  have e2 : ((B f).toList == [116, 97, 115, 107]) = false := by rw [B_is]; simpa [taskW] using h2
  obtain ⟨tb, m, pa, pc, hm, rfl, hm2, c3⟩ := hlast h0 h1 h2
  have e3 : (((lastP s.ts).length : Int) == 48) = ((lastP s.ts).length == 48) := by
    rw [Bool.eq_iff_iff, beq_iff_eq, beq_iff_eq]; omega
  have HV : Hid (fullB s f = (((lastP s.ts).length : Int) == 48)) := by show _ = _; rw [e3]; unfold fullB; rw [if_neg h0, if_neg h1, if_neg h2]
  rw [hm] at c2
  have hla := lastT_any rb tb m tc w c2 hm2
  clear h0 h1 h2 hlast e3
  go_enter Tryz.func46, Tryz.ntmps46
  go_wp2_with fail
  refine hla.mono ?_
  rintro e w1 ⟨rfl, K1⟩
  have k3 := K1.cell c3
  clear hla
  go_wp2_with fail
  go_ret
  rw [HV.out]
  exact ⟨rfl, K1⟩

theorem locks_else (s : RdD) (ws : List (List UInt8)) (h : ws.length ≠ 2) : addLocksD s ws = (s, 2) := by
  match ws, h with
  | [], _ => rfl
  | [_], _ => rfl
  | [_, _], h => simp at h
  | _ :: _ :: _ :: _, _ => rfl
set_option maxHeartbeats 4000000 in
theorem locks_any (w0 : World) (rb : Nat) (s : RdD) (ws : List (List UInt8)) (n c : Nat) (ad : Option Addr) (w : World) (hr : Rdy w) (K0 : Kept w0 w) (hn : n = ws.length) (hA : At w ad n ws) (hb : ∀ x ∈ ws, x.length ≤ 1000) (hS : RSx w0 rb w s) :
    Calls Tryz.prog 47 #[.pointer (some ⟨rb, 0, none⟩), .slice ad n c] w fun e w' => e = .returned (.int .i64 (addLocksD s ws).2) ∧ Kept w0 w' ∧ RSx w0 rb w' (addLocksD s ws).1 := by
  have HS : Hid (RSx w0 rb w s) := hS
  clear hS
  by_cases h2 : n = 2
  · subst h2
    obtain ⟨x, a, rfl⟩ : ∃ x a, ws = [x, a] := by
      match ws, hn with
      | [x, a], _ => exact ⟨x, a, rfl⟩
    obtain ⟨b, f, rfl, g1⟩ := hA.word 1 a rfl
    have hsm := smallNumber_any a (by have := hb a (by simp); omega) w hr
    obtain ⟨q1, hq1⟩ : ∃ q, (smallD a).1 = q := ⟨_, rfl⟩
    obtain ⟨q2, hq2⟩ : ∃ q, (smallD a).2 = q := ⟨_, rfl⟩
    have HV : Hid (addLocksD s [x, a] = if q2 = 0 then (⟨q1, true, s.cs, s.ts⟩, 0) else (s, q2)) := by show _ = _; rw [← hq1, ← hq2]; rfl
    rw [hq1, hq2] at hsm
    clear hq1 hq2 hA hb hn
    by_cases h0 : q2 = 0
    · subst h0
      go_enter Tryz.func47, Tryz.ntmps47
      go_wp2_with fail
      refine hsm.mono ?_
      rintro e w1 ⟨rfl, K1⟩
      obtain ⟨hv, tv, pvs, Bp, R⟩ := HS.out
      have R1 := R.kept K1
      have f1 := R1.box.frozen 0
      have z1 : w1.cell? ⟨rb, 0, none⟩ = some (.int .i64 s.L) := R1.box.cell 0 (by simp)
      have f2 := (R1.box.set 0 (.int .i64 q1)).frozen 3
      have z2 : (w1.setCell ⟨rb, 0, none⟩ (.int .i64 q1)).cell? ⟨rb, 3, none⟩ = some (.bool s.bg) := (R1.box.set 0 (.int .i64 q1)).cell 3 (by simp)
      have HR : Hid (RSx w0 rb ((w1.setCell ⟨rb, 0, none⟩ (.int .i64 q1)).setCell ⟨rb, 3, none⟩ (.bool true)) ⟨q1, true, s.cs, s.ts⟩) := ⟨hv, tv, pvs, Bp, R1.lock q1⟩
      have HK : Hid (Kept w0 ((w1.setCell ⟨rb, 0, none⟩ (.int .i64 q1)).setCell ⟨rb, 3, none⟩ (.bool true))) := by
        have t : Turns (fun k => k = rb) w1 ((w1.setCell ⟨rb, 0, none⟩ (.int .i64 q1)).setCell ⟨rb, 3, none⟩ (.bool true)) := (turn_set w1 rb 0 _).trans (turn_set _ rb 3 _)
        exact t.kept (K0.trans K1) (fun i e => by rw [e]; exact R.box.lt.1)
      clear R R1 hsm
      go_wp2_with fail
      go_ret
      rw [HV.out]
      exact ⟨rfl, HK.out, HR.out⟩
    · have hne : (q2 != 0) = true := by simpa using h0
      have HW : Hid (addLocksD s [x, a] = (s, q2)) := by show _ = _; rw [HV.out, if_neg h0]
      go_enter Tryz.func47, Tryz.ntmps47
      go_wp2_with fail
      refine hsm.mono ?_
      rintro e w1 ⟨rfl, K1⟩
      clear hsm
      go_wp2_with fail
      go_ret
      rw [HW.out]
      exact ⟨rfl, K0.trans K1, HS.out.kept K1⟩
  · have hne : ((n : Int) != 2) = true := by simp; omega
    have HW : Hid (addLocksD s ws = (s, 2)) := locks_else s ws (by omega)
    clear hA hb
    go_enter Tryz.func47, Tryz.ntmps47
    go_wp2_with fail
    go_ret
    rw [HW.out]
    exact ⟨rfl, K0, HS.out⟩
end Go.Proofs.YtolljdomnohmdabGreatDoor
namespace Go.Proofs.YtolljdomnohmdabGreatDoor
open Go.RowKit Go.Shelf

/-- One op behind a row of ops, at one operation of a region. -/
theorem step_append_op (w : World) {ops : Array Oper} {o : Oper} {a : Act} {K : Act → World → Prop} {Q : Exit → Act → World → Prop} {E : Prop} (hgd : o.guard = none) (s x : Operand)
    (ho : o.op = .call { callee := .builtin .append, args := #[s, x], argTypes := #[31, 31] })
    (B : Nat) (v1 : Value) (p : List OpD) (svs : List Value) (k n v wt : Int) (l : List CaseD) (sv : Value) (W : World) (hw1 : w = W.alloc (.cells #[.int .i64 k, .int .i64 n, .int .i64 v, .int .i64 wt, sv] 37)) (hs : a.eval s = v1) (nb : Nat) (hnb : nb = W.heap.size) (hx : a.eval x = .slice (some ⟨nb, 0, none⟩) 1 1)
    (h1 : ORow B W v1 p svs) (hc : CRow 57 B W sv l) (hq : ∀ q, sv.ownBlock = some q → v1.ownBlock ≠ some q) (hl : p.length ≤ 1000000) (hB : B ≤ W.heap.size)
    (h : ∀ g cap w', ORow B w' (.slice (some ⟨g, 0, none⟩) (p.length + 1) cap) (p ++ [⟨k, n, v, wt, l⟩]) (svs ++ [sv]) → Turns (fun k => v1.ownBlock = some k) W w' → (v1.ownBlock = some g ∨ W.heap.size < g) → K (a.put o.dst (.slice (some ⟨g, 0, none⟩) (p.length + 1) cap)) w') :
    if Region.wanted o (yielded ops a.tmps) = true then Oper.wp Tryz.prog o a w K Q else E := by
  have hw : Region.wanted o (yielded ops a.tmps) = true := by simp [Region.wanted, hgd]
  rw [if_pos hw]
  subst hw1
  subst hnb
  obtain ⟨i, hi, hz0, hz1, hz2⟩ := info_parts infoO
  obtain ⟨sa, sc, hsv, _, _⟩ := hc.at
  have hone : sv.oneCell' = true := by rw [hsv]; rfl
  have hcc : ∀ j u, (flatO [⟨k, n, v, wt, l⟩] [sv])[j]? = some u → (W.alloc (.cells #[.int .i64 k, .int .i64 n, .int .i64 v, .int .i64 wt, sv] 37)).cell? (Addr.add ⟨W.heap.size, 0, none⟩ j) = some u := by
    intro j u hu
    rw [Addr.add_lit, Nat.zero_add, World.cell?_alloc_at _ _ _ _ rfl]
    simpa [flatO, opV] using hu
  have h1' : (W.alloc (.cells #[.int .i64 k, .int .i64 n, .int .i64 v, .int .i64 wt, sv] 37)).ownsRow B 37 5 v1 p.length (flatO p svs) := World.ownsRow.alloc h1.row _
  have hB' := le_alloc (.cells #[.int .i64 k, .int .i64 n, .int .i64 v, .int .i64 wt, sv] 37) hB
  obtain ⟨v', w', hr, k1, k2, k3, k4⟩ := run_append_own_at (P := Tryz.prog) (W.alloc (.cells #[.int .i64 k, .int .i64 n, .int .i64 v, .int .i64 wt, sv] 37)) B 31 o.type 37 i _ 5 56 Tryz.underlying31 hi hz0 hz1 hz2 rfl (by omega) _ p.length (flatO p svs) h1' ⟨W.heap.size, 0, none⟩ 1 1 (flatO [⟨k, n, v, wt, l⟩] [sv]) (by simp [flatO, opV]) hcc (flatO_one _ _ (fun s hs => by simp at hs; subst hs; exact hone)) (by unfold maxLen; omega) (by omega) hB'
  obtain ⟨g, cap, rfl⟩ := own_form k1 (fun e => by have := k3.1 e; have := this.2; omega)
  have t : Turns (fun k => v1.ownBlock = some k) W w' := ((Turns.refl _ W).alloc _).trans (Turns.grown k2 (fun k e => e))
  have hg : v1.ownBlock = some g ∨ W.heap.size < g := by
    rcases k4 with k4 | k4
    · exact .inl k4.symm
    · right; simp [Value.ownBlock] at k4; omega
  have far : ∀ (s : Value) (c : List CaseD), CRow 57 B W s c → (∀ q, s.ownBlock = some q → v1.ownBlock ≠ some q) → CRow 57 B w' s c ∧ ∀ q, s.ownBlock = some q → (Value.slice (some ⟨g, 0, none⟩) (p.length + 1) cap).ownBlock ≠ some q := by
    intro s c h2 h3
    refine ⟨h2.turns t (fun q hq e => h3 q hq e), fun q hq e => ?_⟩
    simp [Value.ownBlock] at e
    subst e
    have hlt := (World.ownsRow.lt h2 g hq).2
    rcases hg with h4 | h4
    · exact h3 g hq h4
    · omega
  unfold Oper.wp
  simp [execOp, ho, resolve, invoke, builtin, hs, hx, hr, Result.andThen]
  refine h g cap w' ⟨by simp [h1.len], ?_, ?_⟩ t hg
  · rw [flatO_append p svs _ _ h1.len, List.length_append]
    simpa [flatO] using k1
  · intro j o' s' hj hs'
    by_cases hjp : j < p.length
    · rw [List.getElem?_append_left hjp] at hj
      rw [List.getElem?_append_left (by rw [h1.len]; exact hjp)] at hs'
      obtain ⟨c1, c2⟩ := h1.cs j o' s' hj hs'
      exact far s' _ c1 c2
    · have hj2 : j = p.length := by
        have := (List.getElem?_eq_some_iff.1 hj).1
        simp at this
        omega
      subst hj2
      rw [List.getElem?_append_right (by omega)] at hj
      rw [List.getElem?_append_right (by rw [h1.len]; omega), h1.len] at hs'
      simp at hj hs'
      subst hj hs'
      exact far _ _ hc hq
/-- A channel behind a row of channels. -/
theorem wpList_append_chan (w : World) {ops : Array Oper} {rest : List Oper} {o : Oper} {a : Act} {Q : Exit → Act → World → Prop} (hgd : o.guard = none) (s x : Operand)
    (ho : o.op = .call { callee := .builtin .append, args := #[s, x], argTypes := #[24, 24] })
    (Bd : Nat) (v1 : Value) (es : List ChanD) (e : ChanD) (cells : Array Value) (hcells : cells = (hkV e).toArray) (W : World) (hw1 : w = W.alloc (.cells cells 60)) (hs : a.eval s = v1) (nb : Nat) (hnb : nb = W.heap.size) (hx : a.eval x = .slice (some ⟨nb, 0, none⟩) 1 1)
    (h1 : HRow Bd W v1 es) (hl : es.length ≤ 1000000) (hB : Bd ≤ W.heap.size)
    (h : ∀ g cap w', HRow Bd w' (.slice (some ⟨g, 0, none⟩) (es.length + 1) cap) (es ++ [e]) → Turns (fun k => v1.ownBlock = some k) W w' → (v1.ownBlock = some g ∨ W.heap.size < g) → wpList Tryz.prog ops Q rest (a.put o.dst (.slice (some ⟨g, 0, none⟩) (es.length + 1) cap)) w') :
    wpList Tryz.prog ops Q (o :: rest) a w :=
  wpList_step fun _K hK => step_append_chan w hgd s x ho Bd v1 es e cells hcells W hw1 hs nb hnb hx h1 hl hB (fun g cap w' a1 a2 a3 => hK _ _ (h g cap w' a1 a2 a3))
theorem chan_else (s : RdD) (ws : List (List UInt8)) (h : ws.length ≠ 3) : addChanD s ws = (s, 2) := by
  match ws, h with
  | [], _ => rfl
  | [_], _ => rfl
  | [_, _], _ => rfl
  | [_, _, _], h => simp at h
  | _ :: _ :: _ :: _ :: _, _ => rfl
set_option maxHeartbeats 4000000 in
theorem chanAdd_any (w0 : World) (rb : Nat) (s : RdD) (ws : List (List UInt8)) (n c : Nat) (ad : Option Addr) (w : World) (hr : Rdy w) (K0 : Kept w0 w) (hn : n = ws.length) (hA : At w ad n ws) (hb : ∀ x ∈ ws, x.length ≤ 1000) (hS : RSx w0 rb w s) (hts : s.ts = []) (hcs : s.cs.length ≤ 100) :
    Calls Tryz.prog 48 #[.pointer (some ⟨rb, 0, none⟩), .slice ad n c] w fun e w' => e = .returned (.int .i64 (addChanD s ws).2) ∧ Kept w0 w' ∧ RSx w0 rb w' (addChanD s ws).1 := by
  have HS : Hid (RSx w0 rb w s) := hS
  have HR : Hid (Rdy w) := hr
  have HT : Hid (s.ts = []) := hts
  clear hS hts
  by_cases h2 : n = 3
  · subst h2
    obtain ⟨x, a, b, rfl⟩ : ∃ x a b, ws = [x, a, b] := by
      match ws, hn with
      | [x, a, b], _ => exact ⟨x, a, b, rfl⟩
    obtain ⟨b0, f0, rfl, g1⟩ := hA.word 1 a rfl
    obtain ⟨b0', f0', e9, g2⟩ := hA.word 2 b rfl
    cases e9
    have hsm := smallNumber_any a (by have := hb a (by simp); omega) w hr
    have HSV : Hid (∀ wx, Kept w wx → Calls Tryz.prog 60 #[.string (B b)] wx fun e w' => e = .returned (.tuple #[.int .i64 (servD b).1, .int .i64 (servD b).2]) ∧ Kept wx w') := fun wx kx => serverOf_any b (by have := hb b (by simp); omega) wx (HR.out.kept kx)
    obtain ⟨q1, hq1⟩ : ∃ q, (smallD a).1 = q := ⟨_, rfl⟩
    obtain ⟨q2, hq2⟩ : ∃ q, (smallD a).2 = q := ⟨_, rfl⟩
    obtain ⟨p1, hp1⟩ : ∃ q, (servD b).1 = q := ⟨_, rfl⟩
    obtain ⟨p2, hp2⟩ : ∃ q, (servD b).2 = q := ⟨_, rfl⟩
    have HV : Hid (addChanD s [x, a, b] = if q2 = 0 then (if p2 = 0 then (⟨s.L, s.bg, s.cs ++ [⟨q1, p1⟩], s.ts⟩, 0) else (s, p2)) else (s, q2)) := by show _ = _; rw [← hq1, ← hq2, ← hp1, ← hp2]; rfl
    rw [hq1, hq2] at hsm
    rw [hp1, hp2] at HSV
    clear hq1 hq2 hp1 hp2 hA hb hn
    by_cases h0 : q2 = 0
    · subst h0
      by_cases h1 : p2 = 0
      · subst h1
        have HW : Hid (addChanD s [x, a, b] = (⟨s.L, s.bg, s.cs ++ [⟨q1, p1⟩], s.ts⟩, 0)) := by show _ = _; rw [HV.out]; rfl
        clear HV
        go_enter Tryz.func48, Tryz.ntmps48
        go_wp2_with fail
        refine hsm.mono ?_
        rintro e w1 ⟨rfl, K1⟩
        have k2 := K1.cell g2
        clear hsm
        go_wp2_with fail
        refine (HSV.out w1 K1).mono ?_
        rintro e w2 ⟨rfl, K2⟩
        obtain ⟨hv, tv, pvs, Bp, R⟩ := HS.out
        have HQ : Hid (RS w0.heap.size rb w2 s hv tv pvs Bp) := (R.kept K1).kept K2
        have K9 := (K0.trans K1).trans K2
        have c1 : w2.cell? ⟨rb, 1, none⟩ = some hv := HQ.out.box.cell 1 (by simp)
        have HOW : Hid (∀ q, hv.ownBlock = some q → w0.heap.size ≤ q) := fun q hq => (World.ownsRow.lt HQ.out.hrow q hq).1
        clear k2 R
        go_wp2_with (at_builtin; refine wpList_append_chan _ (by rfl) _ _ (by rfl) w0.heap.size hv s.cs ⟨q1, p1⟩ _ rfl w2 (by rfl) (by rfl) w2.heap.size (by rfl) (by rfl) HQ.out.hrow (by omega) K9.size ?_; intro g5 c5 w5 R5 t5 hg5; have K5 := t5.kept K9 HOW.out; have B5 := HQ.out.box.turns t5 (fun e => (HQ.out.lowh rb e).2 rfl); have y1 := B5.frozen 1; have y2 : w5.cell? ⟨rb, 1, none⟩ = some hv := B5.cell 1 (by simp); have HZ : Hid (RSx w0 rb (w5.setCell ⟨rb, 1, none⟩ (.slice (some ⟨g5, 0, none⟩) (s.cs.length + 1) c5)) ⟨s.L, s.bg, s.cs ++ [⟨q1, p1⟩], s.ts⟩) := ⟨_, _, _, _, HQ.out.chan HT.out ⟨q1, p1⟩ g5 _ c5 R5 t5 hg5⟩; have K6 : Kept w0 (w5.setCell ⟨rb, 1, none⟩ (.slice (some ⟨g5, 0, none⟩) (s.cs.length + 1) c5)) := (turn_set w5 rb 1 _).kept K5 (fun i e => by rw [e]; exact B5.lt.1); clear B5 R5 t5 hg5)
        go_ret
        rw [HW.out]
        exact ⟨rfl, K6, HZ.out⟩
      · have hne : (p2 != 0) = true := by simpa using h1
        have HW : Hid (addChanD s [x, a, b] = (s, p2)) := by show _ = _; rw [HV.out, if_pos rfl, if_neg h1]
        go_enter Tryz.func48, Tryz.ntmps48
        go_wp2_with fail
        refine hsm.mono ?_
        rintro e w1 ⟨rfl, K1⟩
        have k2 := K1.cell g2
        clear hsm
        go_wp2_with fail
        refine (HSV.out w1 K1).mono ?_
        rintro e w2 ⟨rfl, K2⟩
        go_wp2_with fail
        go_ret
        rw [HW.out]
        exact ⟨rfl, (K0.trans K1).trans K2, (HS.out.kept K1).kept K2⟩
    · have hne : (q2 != 0) = true := by simpa using h0
      have HW : Hid (addChanD s [x, a, b] = (s, q2)) := by show _ = _; rw [HV.out, if_neg h0]
      go_enter Tryz.func48, Tryz.ntmps48
      go_wp2_with fail
      refine hsm.mono ?_
      rintro e w1 ⟨rfl, K1⟩
      clear hsm
      go_wp2_with fail
      go_ret
      rw [HW.out]
      exact ⟨rfl, K0.trans K1, HS.out.kept K1⟩
  · have hne : ((n : Int) != 3) = true := by simp; omega
    have HW : Hid (addChanD s ws = (s, 2)) := chan_else s ws (by omega)
    clear hA hb
    go_enter Tryz.func48, Tryz.ntmps48
    go_wp2_with fail
    go_ret
    rw [HW.out]
    exact ⟨rfl, K0, HS.out⟩
end Go.Proofs.YtolljdomnohmdabGreatDoor
