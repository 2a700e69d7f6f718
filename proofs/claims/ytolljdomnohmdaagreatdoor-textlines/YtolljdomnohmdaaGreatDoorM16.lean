/- Locks, of a program. Locks, walked; Ints. Sorted, each once: what the locks of a program are. -/
import Derived.Lib.SlicesCompact
import Derived.Test.YtolljdomnohmdaaGreatDoorM2
import Derived.Test.YtolljdomnohmdaaGreatDoorCas
import Derived.Test.YtolljdomnohmdaaGreatDoorCheck
import Derived.Test.YtolljdomnohmdaaGreatDoorM3
import Derived.Test.YtolljdomnohmdaaGreatDoorM4
import Derived.Test.YtolljdomnohmdaaGreatDoorM0
import Derived.Test.YtolljdomnohmdaaGreatDoorM5
import Derived.Test.YtolljdomnohmdaaGreatDoorOpO
import Derived.Test.YtolljdomnohmdaaGreatDoorM1
import Derived.Test.YtolljdomnohmdaaGreatDoorOpT
import Derived.Test.YtolljdomnohmdaaGreatDoorPar
import Derived.Test.YtolljdomnohmdaaGreatDoorM6
import Derived.Test.YtolljdomnohmdaaGreatDoorM8
import Derived.Test.YtolljdomnohmdaaGreatDoorTxt
import Derived.Test.YtolljdomnohmdaaGreatDoorRWrd
import Derived.Test.YtolljdomnohmdaaGreatDoorRead
import Derived.Test.YtolljdomnohmdaaGreatDoorM9
import Derived.Test.YtolljdomnohmdaaGreatDoorTrn
import Derived.Test.YtolljdomnohmdaaGreatDoorQTmA
import Derived.Test.YtolljdomnohmdaaGreatDoorM11
import Derived.Test.YtolljdomnohmdaaGreatDoorM13
namespace Go.Proofs.YtolljdomnohmdaaGreatDoor
open Go.RowKit

/-- The numbers of the Locks, in their order. -/
def lockNs : List OpD → List Int
  | [] => []
  | o :: r => if o.kind = 2 then o.n :: lockNs r else lockNs r
theorem lockNs_next : ∀ (p : List OpD) (j : Nat) (o : OpD), p[j]? = some o → lockNs (p.take (j + 1)) = lockNs (p.take j) ++ (if o.kind = 2 then [o.n] else [])
  | [], _, _, h => by simp at h
  | q :: r, 0, o, h => by
    simp at h
    subst h
    simp only [List.take_succ_cons, List.take_zero, lockNs, List.nil_append]
  | q :: r, j + 1, o, h => by
    have := lockNs_next r j o (by simpa using h)
    simp only [List.take_succ_cons, lockNs]
    rw [this]
    split <;> simp
theorem lockNs_len : ∀ p : List OpD, (lockNs p).length ≤ p.length
  | [] => by simp [lockNs]
  | o :: r => by
    have := lockNs_len r
    rw [lockNs]
    split <;> simp <;> omega
def locksD (p : List OpD) : List Int := Lib.compact ((lockNs p).mergeSort fun x y => decide (x ≤ y))
/-- What a slice of numbers shows. -/
def AtI (w : World) (a : Option Addr) (l : List Int) : Prop := ∀ (j : Nat) (x : Int), l[j]? = some x → ∃ b f, a = some ⟨b, f, none⟩ ∧ w.cell? ⟨b, f + j, none⟩ = some (.int .i64 x)
theorem AtI.kept {w w' : World} {a : Option Addr} {l : List Int} (h : AtI w a l) (t : Kept w w') : AtI w' a l := by
  intro j x hj
  obtain ⟨b, f, e, hc⟩ := h j x hj
  exact ⟨b, f, e, t.cell hc⟩
theorem turns_put {α : Type} [Inhabited α] (enc : α → Value) (w : World) (n g off : Nat) (d : Array α) : Turns (fun k => k = g) w (Sort.putRow enc (Sort.ahead w n) g off d) := by
  refine ⟨rfl, rfl, rfl, by simp [Sort.ahead], fun k _ hk => ?_⟩
  unfold Sort.putRow Sort.mapBlock
  show ((Sort.ahead w n).heap.modify g _)[k]? = _
  rw [Array.getElem?_modify, if_neg (fun e => hk e.symm)]
  rfl
theorem turns_grow {S : Nat → Prop} {w w1 : World} (h : Turns S w w1) (os : Array Obj) : Turns S w (Sort.grow w1 os) := by
  refine ⟨h.os, h.tape, h.output, by have := h.size; simp; omega, fun k hk hs => ?_⟩
  rw [← h.block k hk hs]
  show (w1.heap ++ os)[k]? = _
  rw [Array.getElem?_append_left (by have := h.size; omega)]
theorem holds_row {e : TypeId} {B : Nat} {w : World} {g c : Nat} {l : List Int} (h : IRow e B w (.slice (some ⟨g, 0, none⟩) l.length c) l) : Sort.Holds (Value.int .i64) w g 0 l.toArray := by
  intro j hj
  have hj2 : j < l.length := by simpa using hj
  rw [Nat.zero_add]
  refine ⟨?_, ?_⟩
  · rw [h.cell j l[j] (List.getElem?_eq_getElem hj2)]
    simp [hj2]
  · unfold IRow at h
    exact h.frozenAt j
/-- What the two calls of the library leave. -/
theorem locks_left {w w1 : World} {g n q : Nat} {os : Array Obj} {zs : List Int} (hH : Sort.Holds (Value.int .i64) w1 g 0 zs.toArray) (hg : w.heap.size ≤ g) (hgl : g < w1.heap.size) (K : Kept w w1) (ms : List Int) (hms : ms.length = zs.length) (cs : List Int) (hcs : cs.length = ms.length) (rs : List Int) (hrs : ∀ (j : Nat) (x : Int), rs[j]? = some x → cs[j]? = some x) :
    Sort.Holds (Value.int .i64) (Sort.grow (Sort.putRow (Value.int .i64) (Sort.ahead w1 n) g 0 ms.toArray) os) g 0 ms.toArray ∧
    (AtI (Sort.putRow (Value.int .i64) (Sort.ahead (Sort.grow (Sort.putRow (Value.int .i64) (Sort.ahead w1 n) g 0 ms.toArray) os) q) g 0 cs.toArray) (some ⟨g, 0, none⟩) rs) ∧
    Kept w (Sort.putRow (Value.int .i64) (Sort.ahead (Sort.grow (Sort.putRow (Value.int .i64) (Sort.ahead w1 n) g 0 ms.toArray) os) q) g 0 cs.toArray) := by
  have hH1 : Sort.Holds (Value.int .i64) (Sort.ahead w1 n) g 0 zs.toArray := hH
  have hH2 : Sort.Holds (Value.int .i64) (Sort.grow (Sort.putRow (Value.int .i64) (Sort.ahead w1 n) g 0 ms.toArray) os) g 0 ms.toArray := by
    intro j hj
    have hsz : (Sort.putRow (Value.int .i64) (Sort.ahead w1 n) g 0 ms.toArray).heap.size = w1.heap.size := by simp [Sort.ahead]
    refine ⟨?_, ?_⟩
    · rw [Sort.cell?_grow _ _ _ (by show g < _; omega)]
      exact Sort.cell?_putRow _ _ _ _ _ _ hH1 (by simp [hms]) j hj
    · have h2 := (hH1 j (by simp at hj ⊢; omega)).2
      rw [Sort.frozen?_grow _ _ _ (by show g < _; omega), Sort.frozen?_putRow]
      exact h2
  refine ⟨hH2, ?_, ?_⟩
  · intro j x hj
    refine ⟨g, 0, rfl, ?_⟩
    have hc := hrs j x hj
    have hjc : j < cs.length := (List.getElem?_eq_some_iff.1 hc).1
    have h3 : Sort.Holds (Value.int .i64) (Sort.ahead (Sort.grow (Sort.putRow (Value.int .i64) (Sort.ahead w1 n) g 0 ms.toArray) os) q) g 0 ms.toArray := hH2
    rw [Sort.cell?_putRow (Value.int .i64) _ g 0 ms.toArray cs.toArray h3 (by simp [hcs]) j (by simpa using hjc)]
    have : cs[j] = x := by rw [List.getElem?_eq_getElem hjc] at hc; exact Option.some.inj hc
    simp [hjc, this]
  · have t1 := turns_grow (turns_put (Value.int .i64) w1 n g 0 ms.toArray) os
    have t2 := t1.trans (turns_put (Value.int .i64) _ q g 0 cs.toArray)
    exact t2.kept K (fun i hi => by omega)
end Go.Proofs.YtolljdomnohmdaaGreatDoor
namespace Go.Proofs.YtolljdomnohmdaaGreatDoor
open Go.RowKit

theorem compact_len (zs : List Int) : (Lib.compact zs).length ≤ zs.length := by
  unfold Lib.compact Lib.compactUpTo
  rw [List.length_map]
  have := List.length_filter_le (Lib.keeps zs.toArray) (List.range zs.length)
  simpa using this
/-- A row of numbers grows behind a struct of its own. -/
theorem irow_app {w wr w' : World} {v1 : Value} {l : List Int} {g n c : Nat} {o1 o2 : Obj} {l' : List Int} (h : IRow 3 w.heap.size wr v1 l) (K : Kept w wr) (gr : ((wr.alloc o1).alloc o2).grownBy w' v1.ownBlock) (r : IRow 3 w.heap.size w' (.slice (some ⟨g, 0, none⟩) n c) l') : Kept w w' := by
  have _ := r
  have t : Turns (fun k => v1.ownBlock = some k) wr w' := (((Turns.refl _ wr).alloc o1).alloc o2).trans (Turns.grown gr (fun k e => e))
  exact t.kept K (fun i hi => (World.ownsRow.lt h i hi).1)

end Go.Proofs.YtolljdomnohmdaaGreatDoor
namespace Go.Proofs.YtolljdomnohmdaaGreatDoor

theorem strict_ext : ∀ (l m : List Int), l.Pairwise (· < ·) → m.Pairwise (· < ·) → (∀ x, x ∈ l ↔ x ∈ m) → l = m
  | [], [], _, _, _ => rfl
  | [], y :: m, _, _, h => by have := (h y).2 (by simp); cases this
  | x :: l, [], _, _, h => by have := (h x).1 (by simp); cases this
  | x :: l, y :: m, hl, hm, h => by
    rw [List.pairwise_cons] at hl hm
    have e : x = y := by
      have h1 := (h x).1 (by simp)
      have h2 := (h y).2 (by simp)
      rcases List.mem_cons.1 h1 with h1 | h1
      · exact h1
      · rcases List.mem_cons.1 h2 with h2 | h2
        · exact h2.symm
        · have := hm.1 x h1
          have := hl.1 y h2
          omega
    subst e
    rw [strict_ext l m hl.2 hm.2 (fun z => ?_)]
    constructor
    · intro hz
      rcases List.mem_cons.1 ((h z).1 (by simp [hz])) with e | e
      · have := hl.1 z hz; omega
      · exact e
    · intro hz
      rcases List.mem_cons.1 ((h z).2 (by simp [hz])) with e | e
      · have := hm.1 z hz; omega
      · exact e
theorem at_get (zs : List Int) (j : Nat) (h : j < zs.length) : zs.toArray[j]! = zs[j] := by
  simp [h]
theorem compact_mem (zs : List Int) (x : Int) : x ∈ Lib.compact zs ↔ x ∈ zs := by
  unfold Lib.compact Lib.compactUpTo
  constructor
  · intro h
    obtain ⟨j, hj, rfl⟩ := List.mem_map.1 h
    have hj2 := List.mem_range.1 (List.mem_filter.1 hj).1
    rw [at_get zs j hj2]
    exact List.getElem_mem hj2
  · intro h
    obtain ⟨j, hj, rfl⟩ := List.getElem_of_mem h
    have key : ∀ (i : Nat) (hi : i < zs.length), ∃ k, k < zs.length ∧ Lib.keeps zs.toArray k = true ∧ zs.toArray[k]! = zs[i] := by
      intro i
      induction i with
      | zero => intro hi; exact ⟨0, hi, by simp [Lib.keeps], at_get zs 0 hi⟩
      | succ i ih =>
        intro hi
        by_cases hk : Lib.keeps zs.toArray (i + 1) = true
        · exact ⟨i + 1, hi, hk, at_get zs _ hi⟩
        · obtain ⟨k, h1, h2, h3⟩ := ih (by omega)
          refine ⟨k, h1, h2, ?_⟩
          simp only [Lib.keeps, decide_eq_true_eq, not_or, Decidable.not_not] at hk
          have := hk.2
          rw [Nat.add_sub_cancel, at_get zs _ hi, at_get zs i (by omega)] at this
          rw [h3, this]
    obtain ⟨k, h1, h2, h3⟩ := key j hj
    exact List.mem_map.2 ⟨k, List.mem_filter.2 ⟨List.mem_range.2 h1, h2⟩, h3⟩
theorem compact_strict (zs : List Int) (hs : zs.Pairwise (· ≤ ·)) : (Lib.compact zs).Pairwise (· < ·) := by
  unfold Lib.compact Lib.compactUpTo
  rw [List.pairwise_map]
  have h1 : ((List.range zs.length).filter (Lib.keeps zs.toArray)).Pairwise (· < ·) := List.Pairwise.filter _ List.pairwise_lt_range
  refine List.Pairwise.imp_of_mem (fun {i j} hi hj hij => ?_) h1
  have hj1 := List.mem_range.1 (List.mem_filter.1 hj).1
  have hk := (List.mem_filter.1 hj).2
  simp only [Lib.keeps, decide_eq_true_eq] at hk
  have hle := List.pairwise_iff_getElem.1 hs
  rcases hk with hk | hk
  · omega
  · rw [at_get zs j hj1, at_get zs (j - 1) (by omega)] at hk
    rw [at_get zs j hj1, at_get zs i (by omega)]
    have h2 := hle (j - 1) j (by omega) hj1 (by omega)
    by_cases hij2 : i = j - 1
    · subst hij2
      omega
    · have h3 := hle i (j - 1) (by omega) (by omega) (by omega)
      omega
theorem sorted_le (l : List Int) : (l.mergeSort fun x y => decide (x ≤ y)).Pairwise (· ≤ ·) := by
  have h := List.pairwise_mergeSort (le := fun x y : Int => decide (x ≤ y)) (fun a b c h1 h2 => by simp at *; omega) (fun a b => by simp; omega) l
  exact h.imp (fun {a b} hab => by simpa using hab)
theorem locksD_strict (p : List OpD) : (locksD p).Pairwise (· < ·) := compact_strict _ (sorted_le _)
theorem locksD_mem (p : List OpD) (x : Int) : x ∈ locksD p ↔ x ∈ lockNs p := by
  unfold locksD
  rw [compact_mem]
  exact List.mem_mergeSort
end Go.Proofs.YtolljdomnohmdaaGreatDoor
namespace Go.Proofs.YtolljdomnohmdaaGreatDoor
open Go.RowKit

/-- Ops that stand as they are written. -/
theorem lit_ops (w : World) (ps : List OpD) (hc : ∀ o ∈ ps, o.cases = []) (cells : Array Value) (h : cells = (flatO ps (ps.map fun _ => .slice none 0 0)).toArray) : AtP (w.alloc (.cells cells 69)) (some ⟨w.heap.size, 0, none⟩) ps := by
  subst h
  intro j o hj
  refine ⟨w.heap.size, 0, rfl, ?_⟩
  have hs : (ps.map fun _ => Value.slice none 0 0)[j]? = some (.slice none 0 0) := by rw [List.getElem?_map, hj]; rfl
  have hcell : ∀ i, i < 5 → (w.alloc (.cells (flatO ps (ps.map fun _ => .slice none 0 0)).toArray 69)).cell? ⟨w.heap.size, 0 + j * 5 + i, none⟩ = (opV o (.slice none 0 0))[i]? := by
    intro i hi
    rw [World.cell?_alloc_at _ _ _ _ rfl, Nat.zero_add]
    have := flatO_get ps _ j i o _ hj hs hi
    simpa using this
  have hco := hc o (List.mem_of_getElem? hj)
  refine ⟨hcell 0 (by omega), hcell 1 (by omega), hcell 2 (by omega), hcell 3 (by omega), none, 0, ?_, by rw [hco]; simp, fun _ => rfl, ?_⟩
  · rw [hco]
    exact hcell 4 (by omega)
  · rw [hco]
    exact AtC.none _
end Go.Proofs.YtolljdomnohmdaaGreatDoor
namespace Go.Proofs.YtolljdomnohmdaaGreatDoor
open Go.RowKit

def nils (qs : List OpD) : List Value := qs.map fun _ => .slice none 0 0
theorem flatO_app : ∀ (p : List OpD) (t : List Value) (q : List OpD) (u : List Value), t.length = p.length → flatO (p ++ q) (t ++ u) = flatO p t ++ flatO q u
  | [], [], _, _, _ => by simp [flatO]
  | [], _ :: _, _, _, h => by simp at h
  | _ :: _, [], _, _, h => by simp at h
  | q :: p, x :: t, r, u, h => by
    simp only [List.cons_append, flatO]
    rw [flatO_app p t r u (by simpa using h)]
    simp
theorem flatO_len : ∀ (p : List OpD) (t : List Value), t.length = p.length → (flatO p t).length = p.length * 5
  | [], [], _ => by simp [flatO]
  | [], _ :: _, h => by simp at h
  | _ :: _, [], h => by simp at h
  | q :: p, x :: t, h => by
    have := flatO_len p t (by simpa using h)
    simp only [flatO, List.length_append, List.length_cons, this]
    simp [opV]
    omega
/-- Written ops behind a row of ops. -/
theorem wpList_append_lits (w : World) {ops : Array Oper} {rest : List Oper} {o : Oper} {a : Act} {Q : Exit → Act → World → Prop} (hw : Region.wanted o (yielded ops a.tmps) = true) (s x : Operand)
    (ho : o.op = .call { callee := .builtin .append, args := #[s, x], argTypes := #[64, 64] })
    (B : Nat) (v1 : Value) (p : List OpD) (qs : List OpD) (hqs : ∀ o ∈ qs, o.cases = []) (hq1 : 1 ≤ qs.length) (cells : Array Value) (hcells : cells = (flatO qs (nils qs)).toArray) (W : World) (hw1 : w = W.alloc (.cells cells 69)) (hs : a.eval s = v1) (nb : Nat) (hnb : nb = W.heap.size) (k : Nat) (hk : k = qs.length) (hx : a.eval x = .slice (some ⟨nb, 0, none⟩) k k)
    (h1 : ∃ svs, ORow B W v1 p svs) (hl : p.length + qs.length ≤ 1000000) (hB : B ≤ W.heap.size)
    (h : ∀ g cap w', (∃ svs, ORow B w' (.slice (some ⟨g, 0, none⟩) (p.length + k) cap) (p ++ qs) svs) → Turns (fun k => v1.ownBlock = some k) W w' → wpList Tryz.prog ops Q rest (a.put o.dst (.slice (some ⟨g, 0, none⟩) (p.length + k) cap)) w') :
    wpList Tryz.prog ops Q (o :: rest) a w := by
  subst hw1
  subst hnb
  subst hk
  obtain ⟨svs, h1⟩ := h1
  refine wpList_step fun K hK => ?_
  rw [if_pos hw]
  obtain ⟨i, hi, hz0, hz1, hz2⟩ := info_parts infoO
  have hnl : (nils qs).length = qs.length := by simp [nils]
  have hcc : ∀ j u, (flatO qs (nils qs))[j]? = some u → (W.alloc (.cells cells 69)).cell? (Addr.add ⟨W.heap.size, 0, none⟩ j) = some u := by
    intro j u hu
    rw [Addr.add_lit, Nat.zero_add, World.cell?_alloc_at _ _ _ _ rfl, hcells]
    simpa using hu
  have h1' : (W.alloc (.cells cells 69)).ownsRow B 69 5 v1 p.length (flatO p svs) := World.ownsRow.alloc h1.row _
  have hB' := le_alloc (.cells cells 69) hB
  obtain ⟨v', w', hr, k1, k2, k3, k4⟩ := run_append_own_at (P := Tryz.prog) (W.alloc (.cells cells 69)) B 64 o.type 69 i _ 5 56 Tryz.underlying64 hi hz0 hz1 hz2 rfl (by omega) _ p.length (flatO p svs) h1' ⟨W.heap.size, 0, none⟩ qs.length qs.length (flatO qs (nils qs)) (flatO_len _ _ hnl) hcc (flatO_one _ _ (fun s hs => by simp [nils] at hs; rw [← hs.2]; rfl)) (by unfold maxLen; omega) (by omega) hB'
  obtain ⟨g, cap, rfl⟩ := own_form k1 (fun e => by have := k3.1 e; have := this.2; omega)
  have t : Turns (fun k => v1.ownBlock = some k) W w' := ((Turns.refl _ W).alloc _).trans (Turns.grown k2 (fun k e => e))
  have hg : v1.ownBlock = some g ∨ W.heap.size < g := by
    rcases k4 with k4 | k4
    · exact .inl k4.symm
    · right; simp [Value.ownBlock] at k4; omega
  unfold Oper.wp
  simp [execOp, ho, resolve, invoke, builtin, hs, hx, hr, Result.andThen]
  refine hK _ _ (h g cap w' ⟨svs ++ nils qs, by simp [h1.len, hnl], ?_, ?_⟩ t)
  · rw [flatO_app p svs _ _ h1.len, List.length_append]
    exact k1
  · intro j o' s' hj hs'
    by_cases hjp : j < p.length
    · rw [List.getElem?_append_left hjp] at hj
      rw [List.getElem?_append_left (by rw [h1.len]; exact hjp)] at hs'
      obtain ⟨c1, c2⟩ := h1.cs j o' s' hj hs'
      refine ⟨c1.turns t (fun q hq e => c2 q hq e), fun q hq e => ?_⟩
      simp [Value.ownBlock] at e
      subst e
      have hlt := (World.ownsRow.lt c1 g hq).2
      rcases hg with h4 | h4
      · exact c2 g hq h4
      · omega
    · rw [List.getElem?_append_right (by omega)] at hj
      rw [List.getElem?_append_right (by rw [h1.len]; omega), h1.len] at hs'
      have hs2 : s' = .slice none 0 0 := by
        unfold nils at hs'
        rw [List.getElem?_map, hj] at hs'
        exact (Option.some.inj hs').symm
      rw [hs2, hqs o' (List.mem_of_getElem? hj)]
      exact ⟨CRow.nil _ _ _, fun q hq => by simp [Value.ownBlock] at hq⟩
end Go.Proofs.YtolljdomnohmdaaGreatDoor
namespace Go.Proofs.YtolljdomnohmdaaGreatDoor
open Go.RowKit

theorem infoR : (Tryz.prog.info? 77).map (fun i => (i.zero, i.size, i.bytes)) = some (some (.agg #[.int .i64 0, .int .i64 0, .int .i64 0, .int .i64 0, .slice none 0 0]), 5, 56) := by kernel_rfl
/-- Ops that lie somewhere behind a row of the call's own. -/
theorem wpList_append_rops (w : World) {ops : Array Oper} {rest : List Oper} {o : Oper} {a : Act} {Q : Exit → Act → World → Prop} (hw : Region.wanted o (yielded ops a.tmps) = true) (s x : Operand)
    (ho : o.op = .call { callee := .builtin .append, args := #[s, x], argTypes := #[50, 50] })
    (Bd : Nat) (v1 : Value) (n : Nat) (xs : List Value) (ys : List Value) (m c : Nat) (hy : ys.length = m * 5) (hone : ∀ u ∈ ys, u.oneCell' = true) (hs : a.eval s = v1) (nb : Nat) (hx : a.eval x = .slice (some ⟨nb, 0, none⟩) m c)
    (hcc : ∀ (j : Nat) (u : Value), ys[j]? = some u → w.cell? ⟨nb, j, none⟩ = some u)
    (h1 : w.ownsRow Bd 77 5 v1 n xs) (hl : n + m ≤ 1000000) (hB : Bd ≤ w.heap.size)
    (h : ∀ v' w', w'.ownsRow Bd 77 5 v' (n + m) (xs ++ ys) → Turns (fun k => v1.ownBlock = some k) w w' → (v'.ownBlock = v1.ownBlock ∨ ∀ q, v'.ownBlock = some q → w.heap.size ≤ q) → wpList Tryz.prog ops Q rest (a.put o.dst v') w') :
    wpList Tryz.prog ops Q (o :: rest) a w := by
  refine wpList_step fun K hK => ?_
  rw [if_pos hw]
  obtain ⟨i, hi, hz0, hz1, hz2⟩ := info_parts infoR
  have hcc' : ∀ j u, ys[j]? = some u → w.cell? (Addr.add ⟨nb, 0, none⟩ j) = some u := by
    intro j u hu
    rw [Addr.add_lit, Nat.zero_add]
    exact hcc j u hu
  obtain ⟨v', w', hr, k1, k2, k3, k4⟩ := run_append_own_at (P := Tryz.prog) w Bd 50 o.type 77 i _ 5 56 Tryz.underlying50 hi hz0 hz1 hz2 rfl (by omega) _ n xs h1 ⟨nb, 0, none⟩ m c ys hy hcc' hone (by unfold maxLen; omega) (by omega) hB
  have t : Turns (fun k => v1.ownBlock = some k) w w' := Turns.grown k2 (fun k e => e)
  unfold Oper.wp
  simp [execOp, ho, resolve, invoke, builtin, hs, hx, hr, Result.andThen]
  refine hK _ _ (h v' w' k1 t ?_)
  rcases k4 with k4 | k4
  · exact .inl k4
  · right
    intro q hq
    rw [k4] at hq
    simp at hq
    omega
theorem wpList_append_rnone (w : World) {ops : Array Oper} {rest : List Oper} {o : Oper} {a : Act} {Q : Exit → Act → World → Prop} (hw : Region.wanted o (yielded ops a.tmps) = true) (s x : Operand)
    (ho : o.op = .call { callee := .builtin .append, args := #[s, x], argTypes := #[50, 50] })
    (Bd : Nat) (v1 : Value) (n : Nat) (xs : List Value) (hs : a.eval s = v1) (hx : a.eval x = .slice none 0 0) (h1 : w.ownsRow Bd 77 5 v1 n xs)
    (h : wpList Tryz.prog ops Q rest (a.put o.dst v1) w) :
    wpList Tryz.prog ops Q (o :: rest) a w := by
  refine wpList_step fun K hK => ?_
  rw [if_pos hw]
  obtain ⟨i, hi, hz0, hz1, hz2⟩ := info_parts infoR
  have hrun := run_append_owned_none (P := Tryz.prog) w Bd 50 o.type 77 i 5 Tryz.underlying50 hi v1 n xs h1
  unfold Oper.wp
  simp [execOp, ho, resolve, invoke, builtin, hs, hx, hrun, Result.andThen]
  exact hK _ _ h
/-- Each op is one of p's, with its own cases. -/
def CSp (w : World) (a : Option Addr) (p : List OpD) (F : List OpD) (svs : List Value) : Prop := ∀ (j : Nat) (o : OpD) (sv : Value), F[j]? = some o → svs[j]? = some sv → ∃ i b f0, p[i]? = some o ∧ a = some ⟨b, f0, none⟩ ∧ w.cell? ⟨b, f0 + i * 5 + 4, none⟩ = some sv
theorem CSp.app {w : World} {a : Option Addr} {p F G : List OpD} {s t : List Value} (h1 : CSp w a p F s) (h2 : CSp w a p G t) (hl : s.length = F.length) : CSp w a p (F ++ G) (s ++ t) := by
  intro j o sv hj hs
  by_cases hjF : j < F.length
  · rw [List.getElem?_append_left hjF] at hj
    rw [List.getElem?_append_left (by omega)] at hs
    exact h1 j o sv hj hs
  · rw [List.getElem?_append_right (by omega)] at hj
    rw [List.getElem?_append_right (by omega), hl] at hs
    exact h2 _ o sv hj hs
theorem CSp.sub {w wo : World} {b f0 : Nat} {p bb qq gg : List OpD} {svs : List Value} {j : Nat} (hA : AtP w (some ⟨b, f0, none⟩) p) (K : Kept w wo) (hp : p.drop (j + 1) = bb ++ qq) (h : CSp wo (some ⟨b, f0 + (j + 1) * 5, none⟩) bb gg svs) : CSp w (some ⟨b, f0, none⟩) p gg svs := by
  intro q o sv hq hs
  obtain ⟨i, b', f', hi, e, hc⟩ := h q o sv hq hs
  cases e
  have hil := (List.getElem?_eq_some_iff.1 hi).1
  have hpi : p[j + 1 + i]? = some o := by
    rw [← List.getElem?_drop, hp, List.getElem?_append_left hil]
    exact hi
  obtain ⟨b2, f2, e2, ho⟩ := hA (j + 1 + i) o hpi
  cases e2
  obtain ⟨ca, cc, h1, _⟩ := ho.cs
  have h1' := K.cell h1
  rw [show f0 + (j + 1 + i) * 5 + 4 = f0 + (j + 1) * 5 + i * 5 + 4 by omega] at h1 h1'
  rw [hc] at h1'
  refine ⟨j + 1 + i, b, f0, hpi, rfl, ?_⟩
  rw [show f0 + (j + 1 + i) * 5 + 4 = f0 + (j + 1) * 5 + i * 5 + 4 by omega, h1, h1']
def RR (w : World) (a : Option Addr) (p : List OpD) (wr : World) (v : Value) (F : List OpD) : Prop := ∃ svs : List Value, svs.length = F.length ∧ wr.ownsRow w.heap.size 77 5 v F.length (flatO F svs) ∧ CSp w a p F svs
theorem csp_one {w : World} {a : Option Addr} {p F : List OpD} {svs : List Value} (hA : AtP w a p) (h : CSp w a p F svs) : ∀ sv ∈ svs, (∃ j, j < F.length ∧ svs[j]? = some sv) → sv.oneCell' = true := by
  intro sv _ ⟨j, hj, hs⟩
  obtain ⟨i, b, f0, hi, e, hc⟩ := h j F[j] sv (List.getElem?_eq_getElem hj) hs
  subst e
  obtain ⟨b2, f2, e2, ho⟩ := hA i _ hi
  cases e2
  obtain ⟨ca, cc, h1, _⟩ := ho.cs
  rw [hc] at h1
  cases h1
  rfl
/-- What such a row shows. -/
theorem RR.view {w : World} {a : Option Addr} {p : List OpD} {wr : World} {v : Value} {F : List OpD} (h : RR w a p wr v F) (hA : AtP w a p) (K : Kept w wr) : ∃ a' c, v = .slice a' F.length c ∧ F.length ≤ c ∧ AtP wr a' F := by
  obtain ⟨svs, hl, hrow, hcs⟩ := h
  rcases hrow.2 with ⟨h1, h2⟩ | ⟨g, cap, cur, h1, _, _, h3, _⟩
  · refine ⟨none, 0, by rw [h1, h2], by omega, ?_⟩
    rw [List.eq_nil_of_length_eq_zero h2]
    exact AtP.nil _ _
  · refine ⟨some ⟨g, 0, none⟩, cap, h1, h3, ?_⟩
    intro j o hj
    have hjl := (List.getElem?_eq_some_iff.1 hj).1
    have hsv : svs[j]? = some svs[j] := List.getElem?_eq_getElem (by omega)
    rw [h1] at hrow
    have hc : ∀ i, i < 5 → wr.cell? ⟨g, 0 + j * 5 + i, none⟩ = (opV o svs[j])[i]? := by
      intro i hi
      rw [Nat.zero_add, hrow.cellAt (j * 5 + i) (by omega), flatO_get F svs j i o svs[j] hj hsv hi]
    obtain ⟨i, b, f0, hi, e, hce⟩ := hcs j o svs[j] hj hsv
    subst e
    obtain ⟨b2, f2, e2, ho⟩ := hA i _ hi
    cases e2
    obtain ⟨ca, cc, q1, q2, q3, q4⟩ := ho.cs
    rw [hce] at q1
    have q1' := Option.some.inj q1
    refine ⟨g, 0, rfl, hc 0 (by omega), hc 1 (by omega), hc 2 (by omega), hc 3 (by omega), ca, cc, ?_, q2, q3, q4.kept K⟩
    rw [hc 4 (by omega), q1']
    rfl
end Go.Proofs.YtolljdomnohmdaaGreatDoor
namespace Go.Proofs.YtolljdomnohmdaaGreatDoor
open Go.RowKit

theorem csp_ones {w : World} {a : Option Addr} {p F : List OpD} {svs : List Value} (hA : AtP w a p) (h : CSp w a p F svs) (hl : svs.length = F.length) : ∀ sv ∈ svs, sv.oneCell' = true := by
  intro sv hs
  obtain ⟨j, hj, e⟩ := List.getElem_of_mem hs
  exact csp_one hA h sv hs ⟨j, by omega, by rw [List.getElem?_eq_getElem hj, e]⟩
theorem rep_nilg (i : Nat) : rep i [] = [] := by unfold rep; simp
set_option maxHeartbeats 16000000 in
set_option maxRecDepth 20000 in
theorem rflat_step (d m m' : Nat) (p f : List OpD) (a : Option Addr) (c : Nat) (w : World) (hbal : Bal d m m' p f) (hA : AtP w a p) (hcap : p.length ≤ c) (hc : ∀ o ∈ p, checkD o = 0) (hp : p.length ≤ 1000) (hf : f.length ≤ 100000)
    (ih : ∀ (d' m m' : Nat) (p f : List OpD) (a : Option Addr) (c : Nat) (w : World), d = d' + 1 → Bal d' m m' p f → AtP w a p → p.length ≤ c → (∀ o ∈ p, checkD o = 0) → p.length ≤ 1000 → f.length ≤ 100000 →
      Calls Tryz.prog 82 #[.slice a p.length c] w fun e w' => ∃ v, e = .returned v ∧ RR w a p w' v f ∧ Kept w w') :
    Calls Tryz.prog 82 #[.slice a p.length c] w fun e w' => ∃ v, e = .returned v ∧ RR w a p w' v f ∧ Kept w w' := by
  have HA : Hid (AtP w a p) := hA
  have HC : Hid (∀ o ∈ p, checkD o = 0) := hc
  have HIH : Hid (∀ (d' m m' : Nat) (p f : List OpD) (a : Option Addr) (c : Nat) (w : World), d = d' + 1 → Bal d' m m' p f → AtP w a p → p.length ≤ c → (∀ o ∈ p, checkD o = 0) → p.length ≤ 1000 → f.length ≤ 100000 → Calls Tryz.prog 82 #[.slice a p.length c] w fun e w' => ∃ v, e = .returned v ∧ RR w a p w' v f ∧ Kept w w') := ih
  have M0 : Hid (RR w a p w (.slice none 0 0) []) := ⟨[], rfl, World.ownsRow_nil _ _ _ _, fun j o sv h _ => by simp at h⟩
  have HB0 : Hid (∃ mj f2, Bal d mj m' (p.drop 0) f2 ∧ f = [] ++ f2) := ⟨m, f, by rw [List.drop_zero]; exact hbal, rfl⟩
  clear hA hc hbal ih
  go_enter Tryz.func82, Tryz.ntmps82
  go_wp2_with fail
  go_loopg [3, 4] p.length (fun gk x3 i wr => ∃ (j : Nat) (vd : Value) (F1 : List OpD) (W : World), W = wr ∧ vd = x3 ∧ i = .int .i64 j ∧ p.length ≤ j + gk ∧ Hid (∃ mj f2, Bal d mj m' (p.drop j) f2 ∧ f = F1 ++ f2) ∧ Hid (RR w a p W vd F1) ∧ Kept w W)
  case atStart => exact ⟨0, _, [], _, rfl, rfl, rfl, by omega, HB0, M0, Kept.refl w⟩
  case round =>
    obtain ⟨j, vd, F1, wo, hWo, hx3, rfl, hj, HB, HM, K⟩ := hrel
    subst hWo
    subst hx3
    by_cases hjp : j < p.length
    · obtain ⟨b, f0, k, n, v, wt, l, ca, cc, rfl, hpj, g0, g1, g2, g3, g4, hcc, hat, hbl, hdr⟩ := HA.out.get j hjp
      have c0 := K.cell g0
      have c1 := K.cell g1
      have c2 := K.cell g2
      have c3 := K.cell g3
      have c4 := K.cell g4
      have HG1 : Hid (w.cell? ⟨b, f0 + j * 5 + 1, none⟩ = some (.int .i64 n)) := g1
      have HG4 : Hid (w.cell? ⟨b, f0 + j * 5 + 4, none⟩ = some (.slice ca l.length cc)) := g4
      have b1 : (j : Int) < (p.length : Int) := by omega
      have b2 : (0 : Int) ≤ (j : Int) := by omega
      have b5 : (j : Int) ≤ (c : Int) := by omega
      have b6 : (j : Int) + 1 ≤ (p.length : Int) := by omega
      have HCK : Hid (checkD ⟨k, n, v, wt, l⟩ = 0) := HC.out _ (List.mem_of_getElem? hpj)
      obtain ⟨mj, f2, hb2, hff⟩ := HB.out
      rw [hdr] at hb2
      have HD : Hid (p.drop j = ⟨k, n, v, wt, l⟩ :: p.drop (j + 1)) := hdr
      have HPJ : Hid (p[j]? = some ⟨k, n, v, wt, l⟩) := hpj
      obtain ⟨g3', rfl⟩ : ∃ g, gk = g + 1 := ⟨gk - 1, by omega⟩
      clear hpj hdr hat g0 g1 g2 g3 g4 hcc HB
      rcases bal_cons hb2 with ⟨h8, h9, m1, f', hf2, hb3⟩ | ⟨h8, d', bb, gg, ee, qq, f', hdd, hpp, h9, hf2, hbb, hb3⟩
      · simp only at h8 h9
        have k8 : (k == 8) = false := beq_eq_false_iff_ne.2 h8
        have k9 : (k == 9) = false := beq_eq_false_iff_ne.2 h9
        have HB2 : Hid (∃ mj f2, Bal d mj m' (p.drop (j + 1)) f2 ∧ f = (F1 ++ [⟨k, n, v, wt, l⟩]) ++ f2) := ⟨m1, f', hb3, by rw [hff, hf2]; simp⟩
        have hlen : F1.length + 1 ≤ 1000000 := by
          have := congrArg List.length hff
          rw [hf2] at this
          simp at this
          omega
        obtain ⟨svs, hsl, hrow, hcs⟩ := HM.out
        have HROW : Hid ((wo.alloc (.cells #[.int .i64 k, .int .i64 n, .int .i64 v, .int .i64 wt, .slice ca l.length cc] 77)).ownsRow w.heap.size 77 5 vd F1.length (flatO F1 svs)) := World.ownsRow.alloc hrow _
        have HOWN : Hid (∀ q, vd.ownBlock = some q → w.heap.size ≤ q) := fun q hq => (World.ownsRow.lt hrow q hq).1
        have HCS : Hid (CSp w (some ⟨b, f0, none⟩) p (F1 ++ [⟨k, n, v, wt, l⟩]) (svs ++ [.slice ca l.length cc])) := by
          refine hcs.app (fun q o sv hq hs => ?_) hsl
          have hq0 : q = 0 := by have := (List.getElem?_eq_some_iff.1 hq).1; simp at this; exact this
          subst hq0
          simp at hq hs
          subst hq
          subst hs
          exact ⟨j, b, f0, HPJ.out, rfl, HG4.out⟩
        have HCC : Hid (∀ (i : Nat) (u : Value), (flatO [⟨k, n, v, wt, l⟩] [.slice ca l.length cc])[i]? = some u → (wo.alloc (.cells #[.int .i64 k, .int .i64 n, .int .i64 v, .int .i64 wt, .slice ca l.length cc] 77)).cell? ⟨wo.heap.size, i, none⟩ = some u) := fun i u hu => by
          rw [World.cell?_alloc_at _ _ _ _ rfl]
          simpa [flatO, opV] using hu
        have HFA : Hid (flatO (F1 ++ [⟨k, n, v, wt, l⟩]) (svs ++ [.slice ca l.length cc]) = flatO F1 svs ++ flatO [⟨k, n, v, wt, l⟩] [.slice ca l.length cc]) := flatO_app F1 svs _ _ hsl
        have KA := K.alloc (.cells #[.int .i64 k, .int .i64 n, .int .i64 v, .int .i64 wt, .slice ca l.length cc] 77)
        clear hb2 hb3 hf2 hff h8 h9 hrow hcs
        go_wp2_with (at_builtin; refine wpList_append_rops _ (by rfl) _ _ rfl w.heap.size vd F1.length (flatO F1 svs) (flatO [⟨k, n, v, wt, l⟩] [.slice ca l.length cc]) 1 1 (by simp [flatO, opV]) (flatO_one _ _ (fun s hs => by simp at hs; subst hs; rfl)) (by rfl) wo.heap.size (by rfl) HCC.out HROW.out hlen KA.size ?_; intro v5 w5 R5 t5 o5; have K5 := t5.kept KA HOWN.out; have HR5 : Hid (w5.ownsRow w.heap.size 77 5 v5 (F1.length + 1) (flatO F1 svs ++ flatO [⟨k, n, v, wt, l⟩] [.slice ca l.length cc])) := R5; clear R5)
        go_roundg g3'
        case rel =>
          refine ⟨j + 1, v5, F1 ++ [⟨k, n, v, wt, l⟩], _, rfl, rfl, by go_num, by omega, HB2, ⟨svs ++ [.slice ca l.length cc], by simp [hsl], ?_, HCS.out⟩, K5⟩
          rw [HFA.out, List.length_append]
          exact HR5.out
        case measure => omega
      · simp only at h8
        subst h8
        obtain ⟨hn1, hn2⟩ := loop_n HCK.out
        obtain ⟨R, hR⟩ : ∃ R : Nat, n = (R : Int) := ⟨n.toNat, by omega⟩
        subst hR
        have hR1 : 1 ≤ R := by omega
        have hR32 : R ≤ 32 := by omega
        rw [show ((R : Int)).toNat = R from rfl] at hf2
        have hpl : p.length = j + 1 + bb.length + 1 + qq.length := by
          have h := congrArg List.length hpp
          simp at h
          omega
        have HMA : Hid (matchD p (j : Int) = ((j + 1 + bb.length : Nat) : Int)) := match_bal hbb rfl h9 (by rw [HD.out, hpp])
        have HDQ : Hid (p.drop (j + 1 + bb.length + 1) = qq) := by
          show _ = _
          rw [show j + 1 + bb.length + 1 = (j + 1) + (bb.length + 1) by omega, ← List.drop_drop, hpp]
          simp
        have HB2 : Hid (∃ mj f2, Bal d mj m' (p.drop (j + 1 + bb.length + 1)) f2 ∧ f = (F1 ++ rep R gg) ++ f2) := ⟨mj, f', by rw [HDQ.out]; exact hb3, by rw [hff, hf2]; simp⟩
        have hlen : F1.length + R * gg.length ≤ 100000 := by
          have h := congrArg List.length hff
          rw [hf2] at h
          simp only [List.length_append, rep_len] at h
          omega
        have hgl : gg.length ≤ R * gg.length := Nat.le_mul_of_pos_left _ hR1
        have hmem : ∀ o ∈ bb, checkD o = 0 := fun o ho => HC.out o (List.mem_of_mem_drop (i := j + 1) (by rw [hpp]; simp [ho]))
        have hATb : AtP wo (some ⟨b, f0 + (j + 1) * 5, none⟩) bb := by
          have h := ((HA.out.kept K).drop (j + 1)).take bb.length
          rw [hpp, List.take_left' rfl] at h
          exact h
        have HATB : Hid (AtP wo (some ⟨b, f0 + (j + 1) * 5, none⟩) bb) := hATb
        have HPP : Hid (p.drop (j + 1) = bb ++ (ee :: qq)) := hpp
        have hih := HIH.out d' mj mj bb gg (some ⟨b, f0 + (j + 1) * 5, none⟩) (c - (j + 1)) wo hdd hbb hATb (by omega) hmem (by omega) (by omega)
        have hma := rmatch_loop (some ⟨b, f0, none⟩) c p j ⟨8, (R : Int), v, wt, l⟩ wo (HA.out.kept K) (by omega) HPJ.out rfl
        rw [HMA.out] at hma
        obtain ⟨en, hen⟩ : ∃ en, j + 1 + bb.length = en := ⟨_, rfl⟩
        rw [hen] at hma HB2
        have hsub : en - (j + 1) = bb.length := by omega
        have e1 : (j : Int) + 1 ≤ (en : Int) := by omega
        have e2 : (en : Int) ≤ (c : Int) := by omega
        have e3 : (en : Int) < (p.length : Int) := by omega
        have e4 : (en : Int) ≤ (p.length : Int) := by omega
        have hjc2 : ¬ j + 1 = c := by omega
        have e0 : (0 : Int) ≤ (j : Int) + 1 := by omega
        have hjc3 : ¬ c = j + 1 := by omega
        have hwj : ∀ z : Int, z = (j : Int) + 1 → IntKind.i64.wrap z = z := wrap_at (j + 1) (by omega)
        have HEN : Hid (p.length ≤ en + 1 + g3' ∧ en + 1 ≤ p.length) := ⟨by omega, by omega⟩
        have HLEN : Hid (F1.length + R * gg.length ≤ 100000) := hlen
        have HGL : Hid (gg.length ≤ R * gg.length) := hgl
        clear hb2 hb3 hf2 hff hpp h9 hbb hmem hATb hdd hen hlen hgl hpl hn1 hn2
        go_wp2_with fail
        refine hma.mono ?_
        rintro e w4 ⟨rfl, hw4⟩
        subst w4
        go_wp2_with fail
        refine hih.mono ?_
        rintro e w5 ⟨vb, rfl, ⟨tvs, htl, hbrow, hbcs⟩, t5⟩
        have K5 := K.trans t5
        have HBC : Hid (CSp w (some ⟨b, f0, none⟩) p gg tvs) := CSp.sub HA.out K HPP.out hbcs
        have HBO : Hid (∀ u ∈ flatO gg tvs, u.oneCell' = true) := flatO_one _ _ (csp_ones HATB.out hbcs htl)
        have HTL : Hid (tvs.length = gg.length) := htl
        obtain ⟨vbl, hvbl⟩ : ∃ x, vb = x := ⟨_, rfl⟩
        have HM5 : Hid (RR w (some ⟨b, f0, none⟩) p w5 vd F1) := by
          obtain ⟨svs, h1, h2, h3⟩ := HM.out
          exact ⟨svs, h1, own_kept h2 t5, h3⟩
        have HVD : Hid (∀ q, vd.ownBlock = some q → q < wo.heap.size) := fun q hq => by
          obtain ⟨svs, h1, h2, h3⟩ := HM.out
          exact (World.ownsRow.lt h2 q hq).2
        have HBR : Hid (w5.ownsRow wo.heap.size 77 5 vb gg.length (flatO gg tvs)) := hbrow
        have HCG : Hid (∀ w', Kept w w' → w'.cell? ⟨b, f0 + j * 5 + 1, none⟩ = some (.int .i64 (R : Int))) := fun w' t => t.cell HG1.out
        clear hih hma hbcs htl hvbl c0 c1 c2 c3 c4 HM
        rcases hbrow.2 with ⟨hv0, hg0⟩ | ⟨gb, capb, cur, hvb, hgb1, _, _, _⟩
        · have hgg : gg = [] := List.eq_nil_of_length_eq_zero hg0
          subst hgg
          subst hv0
          have HB3 : Hid (∃ mj f2, Bal d mj m' (p.drop (en + 1)) f2 ∧ f = F1 ++ f2) := by
            obtain ⟨mj, f2, h1, h2⟩ := HB2.out
            rw [rep_nilg, List.append_nil] at h2
            exact ⟨mj, f2, h1, h2⟩
          clear hbrow HB2 HBR HBC HBO HTL hg0
          go_wp2_with fail
          go_loopg [3, 7] R (fun gk2 y3 cnt wr => ∃ (i : Nat) (vz : Value) (W : World), W = wr ∧ vz = y3 ∧ cnt = .int .i64 i ∧ i + gk2 = R ∧ Hid (RR w (some ⟨b, f0, none⟩) p W vz F1) ∧ Kept w W)
          case atStart => exact ⟨0, vd, _, rfl, rfl, rfl, by omega, HM5, K5⟩
          case round =>
            obtain ⟨i, vz, W, hWW, hy3, rfl, hi, HZ, KW⟩ := hrel
            subst hWW
            subst hy3
            have cg := HCG.out W KW
            by_cases hiR : i < R
            · have d1 : (i : Int) < (R : Int) := by omega
              obtain ⟨svs, h1, h2, h3⟩ := HZ.out
              have HRW : Hid (W.ownsRow w.heap.size 77 5 vz F1.length (flatO F1 svs)) := h2
              obtain ⟨g4, rfl⟩ : ∃ g, gk = g + 1 := ⟨gk - 1, by omega⟩
              clear h1 h2 h3
              go_wp2_with (at_builtin; refine wpList_append_rnone _ (by rfl) _ _ rfl w.heap.size vz F1.length (flatO F1 svs) (by rfl) (by rfl) HRW.out ?_)
              go_roundg g4
              case rel => exact ⟨i + 1, vz, _, rfl, rfl, by go_num, by omega, HZ, KW⟩
              case measure => omega
            · have d1 : ¬ (i : Int) < (R : Int) := by omega
              go_wp2_with fail
              go_roundg g3'
              case rel => exact ⟨en + 1, vz, F1, _, rfl, rfl, by go_num, HEN.out.1, HB3, HZ, KW⟩
              case measure => omega
        · subst hvb
          have HGB : Hid (wo.heap.size ≤ gb) := hgb1
          clear hbrow
          have HM6 : Hid (RR w (some ⟨b, f0, none⟩) p w5 vd (F1 ++ rep 0 gg)) := by
            have h := HM5.out
            show RR _ _ _ _ _ _
            rw [show F1 ++ rep 0 gg = F1 by simp [rep]]
            exact h
          go_wp2_with fail
          go_loopg [3, 7] R (fun gk2 y3 cnt wr => ∃ (i : Nat) (vz : Value) (W : World), W = wr ∧ vz = y3 ∧ cnt = .int .i64 i ∧ i + gk2 = R ∧ Hid (RR w (some ⟨b, f0, none⟩) p W vz (F1 ++ rep i gg)) ∧ Hid (W.ownsRow wo.heap.size 77 5 (.slice (some ⟨gb, 0, none⟩) gg.length capb) gg.length (flatO gg tvs)) ∧ Hid (vz.ownBlock ≠ some gb) ∧ Kept w W)
          case atStart => exact ⟨0, vd, _, rfl, rfl, rfl, by omega, HM6, HBR, (fun e => by have := HVD.out gb e; have := HGB.out; omega), K5⟩
          case round =>
            obtain ⟨i, vz, W, hWW, hy3, rfl, hi, HZ, HBW, HNE, KW⟩ := hrel
            subst hWW
            subst hy3
            have cg := HCG.out W KW
            by_cases hiR : i < R
            · have d1 : (i : Int) < (R : Int) := by omega
              obtain ⟨svs, h1, h2, h3⟩ := HZ.out
              have HRW : Hid (W.ownsRow w.heap.size 77 5 vz (F1 ++ rep i gg).length (flatO (F1 ++ rep i gg) svs)) := h2
              have HSL : Hid (svs.length = (F1 ++ rep i gg).length) := h1
              have HCSZ : Hid (CSp w (some ⟨b, f0, none⟩) p (F1 ++ rep i gg) svs) := h3
              have HOWN : Hid (∀ q, vz.ownBlock = some q → w.heap.size ≤ q) := fun q hq => (World.ownsRow.lt h2 q hq).1
              have HL2 : Hid ((F1 ++ rep i gg).length + gg.length ≤ 1000000) := by
                show _ ≤ _
                rw [List.length_append, rep_len]
                have h1 := HLEN.out
                have h2 : (i + 1) * gg.length ≤ R * gg.length := Nat.mul_le_mul_right _ (by omega)
                rw [Nat.add_mul] at h2
                omega
              have HYL : Hid ((flatO gg tvs).length = gg.length * 5) := flatO_len _ _ HTL.out
              have HCC : Hid (∀ (q : Nat) (u : Value), (flatO gg tvs)[q]? = some u → W.cell? ⟨gb, q, none⟩ = some u) := fun q u hu => by
                have hq := (List.getElem?_eq_some_iff.1 hu).1
                rw [HYL.out] at hq
                rw [HBW.out.cellAt q hq]
                exact hu
              have gbl := (World.ownsRow.lt HBW.out gb rfl).2
              obtain ⟨g4, rfl⟩ : ∃ g, gk = g + 1 := ⟨gk - 1, by omega⟩
              clear h1 h2 h3
              go_wp2_with (at_builtin; refine wpList_append_rops _ (by rfl) _ _ rfl w.heap.size vz (F1 ++ rep i gg).length (flatO (F1 ++ rep i gg) svs) (flatO gg tvs) gg.length capb HYL.out HBO.out (by rfl) gb (by rfl) HCC.out HRW.out HL2.out KW.size ?_; intro v6 w6 R6 t6 o6; have K6 := t6.kept KW HOWN.out; have HR6 : Hid (w6.ownsRow w.heap.size 77 5 v6 ((F1 ++ rep i gg).length + gg.length) (flatO (F1 ++ rep i gg) svs ++ flatO gg tvs)) := R6; clear R6)
              go_roundg g4
              case rel =>
                refine ⟨i + 1, v6, _, rfl, rfl, by go_num, by omega, ?_, owns_turns HBW.out t6 (fun q hq e => by simp [Value.ownBlock] at hq; subst hq; exact HNE.out e), (fun e => ?_), K6⟩
                · rw [rep_succ, ← List.append_assoc]
                  refine ⟨svs ++ tvs, by simp only [List.length_append, HSL.out, HTL.out], ?_, HCSZ.out.app HBC.out HSL.out⟩
                  rw [flatO_app _ _ _ _ HSL.out, List.length_append (bs := gg)]
                  exact HR6.out
                · rcases o6 with h | h
                  · exact HNE.out (by rw [← h]; exact e)
                  · have := h gb e; omega
              case measure => omega
            · have d1 : ¬ (i : Int) < (R : Int) := by omega
              obtain rfl : i = R := by omega
              go_wp2_with fail
              go_roundg g3'
              case rel => exact ⟨en + 1, vz, F1 ++ rep i gg, _, rfl, rfl, by go_num, HEN.out.1, HB2, HZ, KW⟩
              case measure => omega
    · have b1 : ¬ (j : Int) < (p.length : Int) := by omega
      have HFF : Hid (f = F1) := by
        obtain ⟨mj, f2, h1, h2⟩ := HB.out
        rw [List.drop_eq_nil_of_le (by omega)] at h1
        have := (bal_nil h1).1
        show _ = _
        rw [h2, this, List.append_nil]
      go_wp2_with fail
      go_ret
      refine ⟨_, rfl, ?_, K⟩
      rw [HFF.out]
      exact HM.out
theorem rflat_any : ∀ (d m m' : Nat) (p f : List OpD) (a : Option Addr) (c : Nat) (w : World), Bal d m m' p f → AtP w a p → p.length ≤ c → (∀ o ∈ p, checkD o = 0) → p.length ≤ 1000 → f.length ≤ 100000 →
    Calls Tryz.prog 82 #[.slice a p.length c] w fun e w' => ∃ v, e = .returned v ∧ RR w a p w' v f ∧ Kept w w'
  | 0, m, m', p, f, a, c, w, h1, h2, h3, h4, h5, h6 => rflat_step 0 m m' p f a c w h1 h2 h3 h4 h5 h6 (fun d' m m' p f a c w e => by omega)
  | d + 1, m, m', p, f, a, c, w, h1, h2, h3, h4, h5, h6 => rflat_step (d + 1) m m' p f a c w h1 h2 h3 h4 h5 h6 (fun d' m m' p f a c w e => by
      obtain rfl : d = d' := by omega
      exact rflat_any d m m' p f a c w)
end Go.Proofs.YtolljdomnohmdaaGreatDoor
