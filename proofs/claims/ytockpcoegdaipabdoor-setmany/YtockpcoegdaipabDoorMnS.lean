/- A set that grows: its channels, its tasks, their programs. -/
import Derived.Test.YtockpcoegdaipabDoorMnR
namespace Go.Proofs.YtockpcoegdaipabDoor
open Go.RowKit

theorem HRow.turns {S : Nat → Prop} {Bd : Nat} {w w' : World} {v : Value} {l : List ChanD} (h : HRow Bd w v l) (t : Turns S w w') (hv : ∀ q, v.ownBlock = some q → ¬ S q) : HRow Bd w' v l := owns_turns h t hv
def PRow (Bd : Nat) (w : World) (pb : Nat) : Prop := w.ownsRow Bd 32 5 (.slice (some ⟨pb, 0, none⟩) 1 1) 1 (flatO [oRun 1] (nils [oRun 1]))
theorem PRow.turns {S : Nat → Prop} {Bd : Nat} {w w' : World} {pb : Nat} (h : PRow Bd w pb) (t : Turns S w w') (hv : ¬ S pb) : PRow Bd w' pb := owns_turns h t (fun q hq => by simp [Value.ownBlock] at hq; subst hq; exact hv)
structure MSt (Bd : Nat) (w : World) (sb : Nat) (C : Int) (vc v : Value) (lc : List ChanD) (es : List (List UInt8 × Nat)) : Prop where
  bx : Box Bd w 26 sb [.int .i64 C, vc, v]
  hr : HRow Bd w vc lc
  te : TE Bd w v 9 es
  pr : ∀ e ∈ es, PRow Bd w e.2
  d1 : vc.ownBlock ≠ some sb
  d2 : v.ownBlock ≠ some sb
  d3 : ∀ e ∈ es, e.2 ≠ sb ∧ vc.ownBlock ≠ some e.2
  d4 : ∀ q, vc.ownBlock = some q → v.ownBlock ≠ some q
  d5 : es.Pairwise (fun a b => a.2 ≠ b.2)
theorem MSt.kept {Bd : Nat} {w w' : World} {sb : Nat} {C : Int} {vc v : Value} {lc : List ChanD} {es : List (List UInt8 × Nat)} (h : MSt Bd w sb C vc v lc es) (k : Kept w w') : MSt Bd w' sb C vc v lc es :=
  ⟨h.bx.kept k, h.hr.turns k.turns (fun _ _ x => x), h.te.kept k, fun e he => (h.pr e he).turns k.turns (fun x => x), h.d1, h.d2, h.d3, h.d4, h.d5⟩
theorem MSt.grow {Bd : Nat} {W w5 : World} {sb g n c pb : Nat} {C : Int} {vc v : Value} {lc : List ChanD} {es : List (List UInt8 × Nat)} {nm : List UInt8} (h : MSt Bd W sb C vc v lc es) (t : Turns (fun k => v.ownBlock = some k) W w5) (hg : v.ownBlock = some g ∨ W.heap.size < g) (R : TE Bd w5 (.slice (some ⟨g, 0, none⟩) n c) 9 (es ++ [(nm, pb)])) (hp : PRow Bd W pb) (hpb : pb ≠ sb ∧ vc.ownBlock ≠ some pb ∧ v.ownBlock ≠ some pb) (hpd : ∀ e ∈ es, e.2 ≠ pb) :
    MSt Bd (w5.setCell ⟨sb, 2, none⟩ (.slice (some ⟨g, 0, none⟩) n c)) sb C vc (.slice (some ⟨g, 0, none⟩) n c) lc (es ++ [(nm, pb)]) := by
  have tf := turn_set w5 sb 2 (.slice (some ⟨g, 0, none⟩) n c)
  have sl := h.bx.lt.2
  have hgs : g ≠ sb := by
    intro e
    rcases hg with h1 | h1
    · exact h.d2 (by rw [h1, e])
    · omega
  refine ⟨(h.bx.turns t (fun e => h.d2 e)).set 2 _, (h.hr.turns t (fun q hq e => h.d4 q hq e)).turns tf (fun q hq e => h.d1 (by rw [hq, e])), R.turns tf (fun q hq e => by simp [Value.ownBlock] at hq; omega) (fun e he h1 => ?_), fun e he => ?_, h.d1, ?_, fun e he => ?_, fun q hq e => ?_, ?_⟩
  · rcases List.mem_append.1 he with he | he
    · exact (h.d3 e he).1 h1
    · simp at he; subst he; exact hpb.1 h1
  · rcases List.mem_append.1 he with he | he
    · exact ((h.pr e he).turns t (fun e2 => (h.te.pg e he).2.1 e2)).turns tf (h.d3 e he).1
    · simp at he; subst he; exact (hp.turns t (fun e2 => hpb.2.2 e2)).turns tf hpb.1
  · simp [Value.ownBlock]; exact hgs
  · rcases List.mem_append.1 he with he | he
    · exact h.d3 e he
    · simp at he; subst he; exact ⟨hpb.1, hpb.2.1⟩
  · simp [Value.ownBlock] at e
    subst e
    rcases hg with h1 | h1
    · exact h.d4 g hq h1
    · have := (World.ownsRow.lt h.hr g hq).2
      omega
  · rw [List.pairwise_append]
    exact ⟨h.d5, List.pairwise_singleton _ _, fun a ha b hb => by simp at hb; subst hb; exact hpd a ha⟩
theorem TE.view {Bd : Nat} {w : World} {v : Value} {es : List (List UInt8 × Nat)} (h : TE Bd w v 9 es) : ∃ a c, v = .slice a es.length c ∧ AtT w a (mkT 9 (es.map (·.1))) := by
  rcases h.row.2 with ⟨h1, h2⟩ | ⟨g, cap, cur, h1, _⟩
  · refine ⟨none, 0, by rw [h1, h2], ?_⟩
    rw [List.eq_nil_of_length_eq_zero h2]
    exact AtT.nil _ _
  · subst h1
    exact ⟨_, cap, rfl, h.tasks rfl⟩
/-- A row of tasks, the program of one of them another one. -/
structure TM (Bd : Nat) (w : World) (g c : Nat) (es : List (List UInt8 × Nat)) (I : Nat) (pv : Value) : Prop where
  row : w.ownsRow Bd 35 5 (.slice (some ⟨g, 0, none⟩) es.length c) es.length ((flatE 9 es).set (I * 5 + 4) pv)
  pg : ∀ (j : Nat) (e : List UInt8 × Nat), es[j]? = some e → j ≠ I → AtP w (some ⟨e.2, 0, none⟩) [oRun 1] ∧ e.2 ≠ g
theorem TM.at {Bd : Nat} {w : World} {g c : Nat} {es : List (List UInt8 × Nat)} {I : Nat} {a : Option Addr} {p : List OpD} {cc : Nat} {e0 : List UInt8 × Nat} (h : TM Bd w g c es I (.slice a p.length cc)) (he : es[I]? = some e0) (hp : AtP w a p) (hc : p.length ≤ cc) : AtT w (some ⟨g, 0, none⟩) ((mkT 9 (es.map (·.1))).set I ⟨e0.1, 9, 9, 9, p⟩) := by
  have hIl : I < es.length := (List.getElem?_eq_some_iff.1 he).1
  have cellAt : ∀ j i e, es[j]? = some e → i < 5 → w.cell? ⟨g, 0 + j * 5 + i, none⟩ = if j = I ∧ i = 4 then some (.slice a p.length cc) else (entE 9 e)[i]? := by
    intro j i e hj hi
    have hjl := (List.getElem?_eq_some_iff.1 hj).1
    rw [Nat.zero_add, h.row.cellAt (j * 5 + i) (by omega)]
    by_cases hq : j = I ∧ i = 4
    · obtain ⟨rfl, rfl⟩ := hq
      rw [if_pos ⟨rfl, rfl⟩, List.getElem?_set_self (by rw [flatE_len]; omega)]
    · rw [if_neg hq, List.getElem?_set_ne (by omega), flatE_get 9 es j i e hj hi]
  intro j t hj
  refine ⟨g, 0, rfl, ?_⟩
  by_cases hjI : j = I
  · subst hjI
    rw [List.getElem?_set_self (by simp [mkT]; exact hIl)] at hj
    obtain rfl := Option.some.inj hj
    have hc' := fun i => cellAt j i e0 he
    refine ⟨?_, ?_, ?_, ?_, a, cc, ?_, hc, hp⟩
    · rw [show 0 + j * 5 = 0 + j * 5 + 0 by omega, hc' 0 (by omega), if_neg (by omega)]; rfl
    · rw [hc' 1 (by omega), if_neg (by omega)]; rfl
    · rw [hc' 2 (by omega), if_neg (by omega)]; rfl
    · rw [hc' 3 (by omega), if_neg (by omega)]; rfl
    · rw [hc' 4 (by omega), if_pos ⟨rfl, rfl⟩]
  · rw [List.getElem?_set_ne (Ne.symm hjI)] at hj
    simp only [mkT, List.map_map, List.getElem?_map] at hj
    cases hej : es[j]? with
    | none => rw [hej] at hj; simp at hj
    | some e =>
      rw [hej] at hj
      simp at hj
      subst hj
      have hc' := fun i => cellAt j i e hej
      refine ⟨?_, ?_, ?_, ?_, some ⟨e.2, 0, none⟩, 1, ?_, by simp, (h.pg j e hej hjI).1⟩
      · rw [show 0 + j * 5 = 0 + j * 5 + 0 by omega, hc' 0 (by omega), if_neg (by omega)]; rfl
      · rw [hc' 1 (by omega), if_neg (by omega)]; rfl
      · rw [hc' 2 (by omega), if_neg (by omega)]; rfl
      · rw [hc' 3 (by omega), if_neg (by omega)]; rfl
      · rw [hc' 4 (by omega), if_neg (fun x => hjI x.1)]; rfl
theorem TM.turns {S : Nat → Prop} {Bd : Nat} {w w' : World} {g c : Nat} {es : List (List UInt8 × Nat)} {I : Nat} {pv : Value} (h : TM Bd w g c es I pv) (t : Turns S w w') (hg : ¬ S g) (he : ∀ (j : Nat) (e : List UInt8 × Nat), es[j]? = some e → j ≠ I → ¬ S e.2) : TM Bd w' g c es I pv :=
  ⟨owns_turns h.row t (fun q hq => by simp [Value.ownBlock] at hq; subst hq; exact hg), fun j e hj hI => ⟨(h.pg j e hj hI).1.turn0 t (he j e hj hI) (by simp [oRun]), (h.pg j e hj hI).2⟩⟩
theorem TM.kept {Bd : Nat} {w w' : World} {g c : Nat} {es : List (List UInt8 × Nat)} {I : Nat} {pv : Value} (h : TM Bd w g c es I pv) (k : Kept w w') : TM Bd w' g c es I pv := h.turns k.turns (fun x => x) (fun _ _ _ _ x => x)
theorem TM.set {Bd : Nat} {w : World} {g c : Nat} {es : List (List UInt8 × Nat)} {I : Nat} {pv : Value} (h : TM Bd w g c es I pv) (pv' : Value) : TM Bd (w.setCell ⟨g, I * 5 + 4, none⟩ pv') g c es I pv' := by
  have t := turn_set w g (I * 5 + 4) pv'
  refine ⟨?_, fun j e hj hI => ⟨(h.pg j e hj hI).1.turn0 t (h.pg j e hj hI).2 (by simp [oRun]), (h.pg j e hj hI).2⟩⟩
  have := (World.ownsRow.stored h.row (I * 5 + 4) pv').1
  rwa [List.set_set] at this
theorem TE.toM {Bd : Nat} {w : World} {g c : Nat} {es : List (List UInt8 × Nat)} {I : Nat} {e0 : List UInt8 × Nat} (h : TE Bd w (.slice (some ⟨g, 0, none⟩) es.length c) 9 es) (he : es[I]? = some e0) : TM Bd w g c es I (.slice (some ⟨e0.2, 0, none⟩) 1 1) := by
  have hIl : I < es.length := (List.getElem?_eq_some_iff.1 he).1
  refine ⟨?_, fun j e hj _ => ⟨(h.pg e (List.mem_of_getElem? hj)).1, fun e2 => (h.pg e (List.mem_of_getElem? hj)).2.1 (by rw [e2]; rfl)⟩⟩
  have hset : (flatE 9 es).set (I * 5 + 4) (.slice (some ⟨e0.2, 0, none⟩) 1 1) = flatE 9 es := by
    apply List.ext_getElem?
    intro q
    by_cases hq : I * 5 + 4 = q
    · subst hq
      rw [List.getElem?_set_self (by rw [flatE_len]; omega), flatE_get 9 es I 4 e0 he (by omega)]
      rfl
    · rw [List.getElem?_set_ne hq]
  rw [hset]
  exact h.row
theorem HRow.at {Bd : Nat} {w : World} {a : Option Addr} {n c : Nat} {l : List ChanD} (h : HRow Bd w (.slice a n c) l) : AtH w a l := by
  obtain ⟨a9, c9, e9, h9⟩ := h.view
  rw [(Value.slice.inj e9).1]
  exact h9
/-- A run and a select, as they are written. -/
theorem sel_at (w : World) (b : Int) {S : Nat → Prop} {w' : World} (t : Turns S ((w.alloc (.cells #[.bool false, .int .i64 b, .int .i64 0] 40)).alloc (.cells #[.int .i64 1, .int .i64 1, .int .i64 0, .int .i64 0, .slice none 0 0, .int .i64 7, .int .i64 0, .int .i64 0, .int .i64 0, .slice (some ⟨w.heap.size, 0, none⟩) 1 1] 32)) w') (h1 : ¬ S w.heap.size) (h2 : ¬ S (w.heap.size + 1)) : AtP w' (some ⟨w.heap.size + 1, 0, none⟩) (slPr b) := by
  have hsz : (w.alloc (.cells #[.bool false, .int .i64 b, .int .i64 0] 40)).heap.size = w.heap.size + 1 := by simp
  have hx := box_new 0 (w.alloc (.cells #[.bool false, .int .i64 b, .int .i64 0] 40)) 32 [.int .i64 1, .int .i64 1, .int .i64 0, .int .i64 0, .slice none 0 0, .int .i64 7, .int .i64 0, .int .i64 0, .int .i64 0, .slice (some ⟨w.heap.size, 0, none⟩) 1 1] (by omega) (by simp)
  rw [hsz] at hx
  replace hx := hx.turns t h2
  have hy := (box_new 0 w 40 [.bool false, .int .i64 b, .int .i64 0] (by omega) (by simp)).kept ((Kept.refl _).alloc (.cells #[.int .i64 1, .int .i64 1, .int .i64 0, .int .i64 0, .slice none 0 0, .int .i64 7, .int .i64 0, .int .i64 0, .int .i64 0, .slice (some ⟨w.heap.size, 0, none⟩) 1 1] 32))
  replace hy := hy.turns t h1
  intro j o hj
  refine ⟨w.heap.size + 1, 0, rfl, ?_⟩
  match j, hj with
  | 0, hj =>
    obtain rfl := Option.some.inj hj
    exact ⟨hx.cell 0 (by simp), hx.cell 1 (by simp), hx.cell 2 (by simp), hx.cell 3 (by simp), none, 0, hx.cell 4 (by simp), by simp [oRun], fun _ => rfl, ⟨rfl, fun i hi => by simp [oRun] at hi⟩⟩
  | 1, hj =>
    obtain rfl := Option.some.inj hj
    refine ⟨hx.cell 5 (by simp), hx.cell 6 (by simp), hx.cell 7 (by simp), hx.cell 8 (by simp), some ⟨w.heap.size, 0, none⟩, 1, hx.cell 9 (by simp), by simp, (fun e => by cases e), ⟨rfl, fun i hi => ?_⟩⟩
    have hi0 : i = 0 := by simp at hi; omega
    subst hi0
    exact ⟨w.heap.size, 0, rfl, hy.cell 0 (by simp), hy.cell 1 (by simp), hy.cell 2 (by simp)⟩
  | j + 2, hj => simp [slPr] at hj
end Go.Proofs.YtockpcoegdaipabDoor
