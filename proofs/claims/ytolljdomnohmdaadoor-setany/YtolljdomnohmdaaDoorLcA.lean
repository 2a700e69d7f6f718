/- Locks, of a program. Locks, walked; Ints. Sorted, each once: what the locks of a program are. -/
import Derived.Test.YtolljdomnohmdaaDoorTmA
namespace Go.Proofs.YtolljdomnohmdaaDoor
open Go.RowKit

/-- The numbers of the Locks, in their order. -/
def lockNs : List OpD → List Int
  | [] => []
  | o :: r => if o.kind = 2 then o.n :: lockNs r else lockNs r
theorem lockNs_next : ∀ (p : List OpD) (j : Nat) (o : OpD), p[j]? = some o → lockNs (p.take (j + 1)) = lockNs (p.take j) ++ (if o.kind = 2 then [o.n] else [])
  | [], _, _, h => by simp at h
  | q :: r, 0, o, h => by
    simp at h
    subst h
    simp only [List.take_succ_cons, List.take_zero, lockNs, List.nil_append]
  | q :: r, j + 1, o, h => by
    have := lockNs_next r j o (by simpa using h)
    simp only [List.take_succ_cons, lockNs]
    rw [this]
    split <;> simp
theorem lockNs_len : ∀ p : List OpD, (lockNs p).length ≤ p.length
  | [] => by simp [lockNs]
  | o :: r => by
    have := lockNs_len r
    rw [lockNs]
    split <;> simp <;> omega
def locksD (p : List OpD) : List Int := Lib.compact ((lockNs p).mergeSort fun x y => decide (x ≤ y))
/-- What a slice of numbers shows. -/
def AtI (w : World) (a : Option Addr) (l : List Int) : Prop := ∀ (j : Nat) (x : Int), l[j]? = some x → ∃ b f, a = some ⟨b, f, none⟩ ∧ w.cell? ⟨b, f + j, none⟩ = some (.int .i64 x)
theorem AtI.kept {w w' : World} {a : Option Addr} {l : List Int} (h : AtI w a l) (t : Kept w w') : AtI w' a l := by
  intro j x hj
  obtain ⟨b, f, e, hc⟩ := h j x hj
  exact ⟨b, f, e, t.cell hc⟩
theorem turns_put {α : Type} [Inhabited α] (enc : α → Value) (w : World) (n g off : Nat) (d : Array α) : Turns (fun k => k = g) w (Sort.putRow enc (Sort.ahead w n) g off d) := by
  refine ⟨rfl, rfl, rfl, by simp [Sort.ahead], fun k _ hk => ?_⟩
  unfold Sort.putRow Sort.mapBlock
  show ((Sort.ahead w n).heap.modify g _)[k]? = _
  rw [Array.getElem?_modify, if_neg (fun e => hk e.symm)]
  rfl
theorem turns_grow {S : Nat → Prop} {w w1 : World} (h : Turns S w w1) (os : Array Obj) : Turns S w (Sort.grow w1 os) := by
  refine ⟨h.os, h.tape, h.output, by have := h.size; simp; omega, fun k hk hs => ?_⟩
  rw [← h.block k hk hs]
  show (w1.heap ++ os)[k]? = _
  rw [Array.getElem?_append_left (by have := h.size; omega)]
theorem holds_row {e : TypeId} {B : Nat} {w : World} {g c : Nat} {l : List Int} (h : IRow e B w (.slice (some ⟨g, 0, none⟩) l.length c) l) : Sort.Holds (Value.int .i64) w g 0 l.toArray := by
  intro j hj
  have hj2 : j < l.length := by simpa using hj
  rw [Nat.zero_add]
  refine ⟨?_, ?_⟩
  · rw [h.cell j l[j] (List.getElem?_eq_getElem hj2)]
    simp [hj2]
  · unfold IRow at h
    exact h.frozenAt j
/-- What the two calls of the library leave. -/
theorem locks_left {w w1 : World} {g n q : Nat} {os : Array Obj} {zs : List Int} (hH : Sort.Holds (Value.int .i64) w1 g 0 zs.toArray) (hg : w.heap.size ≤ g) (hgl : g < w1.heap.size) (K : Kept w w1) (ms : List Int) (hms : ms.length = zs.length) (cs : List Int) (hcs : cs.length = ms.length) (rs : List Int) (hrs : ∀ (j : Nat) (x : Int), rs[j]? = some x → cs[j]? = some x) :
    Sort.Holds (Value.int .i64) (Sort.grow (Sort.putRow (Value.int .i64) (Sort.ahead w1 n) g 0 ms.toArray) os) g 0 ms.toArray ∧
    (AtI (Sort.putRow (Value.int .i64) (Sort.ahead (Sort.grow (Sort.putRow (Value.int .i64) (Sort.ahead w1 n) g 0 ms.toArray) os) q) g 0 cs.toArray) (some ⟨g, 0, none⟩) rs) ∧
    Kept w (Sort.putRow (Value.int .i64) (Sort.ahead (Sort.grow (Sort.putRow (Value.int .i64) (Sort.ahead w1 n) g 0 ms.toArray) os) q) g 0 cs.toArray) := by
  have hH1 : Sort.Holds (Value.int .i64) (Sort.ahead w1 n) g 0 zs.toArray := hH
  have hH2 : Sort.Holds (Value.int .i64) (Sort.grow (Sort.putRow (Value.int .i64) (Sort.ahead w1 n) g 0 ms.toArray) os) g 0 ms.toArray := by
    intro j hj
    have hsz : (Sort.putRow (Value.int .i64) (Sort.ahead w1 n) g 0 ms.toArray).heap.size = w1.heap.size := by simp [Sort.ahead]
    refine ⟨?_, ?_⟩
    · rw [Sort.cell?_grow _ _ _ (by show g < _; omega)]
      exact Sort.cell?_putRow _ _ _ _ _ _ hH1 (by simp [hms]) j hj
    · have h2 := (hH1 j (by simp at hj ⊢; omega)).2
      rw [Sort.frozen?_grow _ _ _ (by show g < _; omega), Sort.frozen?_putRow]
      exact h2
  refine ⟨hH2, ?_, ?_⟩
  · intro j x hj
    refine ⟨g, 0, rfl, ?_⟩
    have hc := hrs j x hj
    have hjc : j < cs.length := (List.getElem?_eq_some_iff.1 hc).1
    have h3 : Sort.Holds (Value.int .i64) (Sort.ahead (Sort.grow (Sort.putRow (Value.int .i64) (Sort.ahead w1 n) g 0 ms.toArray) os) q) g 0 ms.toArray := hH2
    rw [Sort.cell?_putRow (Value.int .i64) _ g 0 ms.toArray cs.toArray h3 (by simp [hcs]) j (by simpa using hjc)]
    have : cs[j] = x := by rw [List.getElem?_eq_getElem hjc] at hc; exact Option.some.inj hc
    simp [hjc, this]
  · have t1 := turns_grow (turns_put (Value.int .i64) w1 n g 0 ms.toArray) os
    have t2 := t1.trans (turns_put (Value.int .i64) _ q g 0 cs.toArray)
    exact t2.kept K (fun i hi => by omega)
end Go.Proofs.YtolljdomnohmdaaDoor
namespace Go.Proofs.YtolljdomnohmdaaDoor
open Go.RowKit

theorem compact_len (zs : List Int) : (Lib.compact zs).length ≤ zs.length := by
  unfold Lib.compact Lib.compactUpTo
  rw [List.length_map]
  have := List.length_filter_le (Lib.keeps zs.toArray) (List.range zs.length)
  simpa using this
/-- A row of numbers grows behind a struct of its own. -/
theorem irow_app {w wr w' : World} {v1 : Value} {l : List Int} {g n c : Nat} {o1 o2 : Obj} {l' : List Int} (h : IRow 3 w.heap.size wr v1 l) (K : Kept w wr) (gr : ((wr.alloc o1).alloc o2).grownBy w' v1.ownBlock) (r : IRow 3 w.heap.size w' (.slice (some ⟨g, 0, none⟩) n c) l') : Kept w w' := by
  have _ := r
  have t : Turns (fun k => v1.ownBlock = some k) wr w' := (((Turns.refl _ wr).alloc o1).alloc o2).trans (Turns.grown gr (fun k e => e))
  exact t.kept K (fun i hi => (World.ownsRow.lt h i hi).1)

set_option maxHeartbeats 4000000 in
set_option maxRecDepth 10000 in
theorem locks_any (a : Option Addr) (c : Nat) (p : List OpD) (w : World) (hA : AtP w a p) (hp : p.length ≤ 100000) :
    Calls Tryd.prog 22 #[.slice a p.length c] w fun e w' => ∃ va vc, e = .returned (.slice va (locksD p).length vc) ∧ AtI w' va (locksD p) ∧ Kept w w' := by
  have HA : Hid (AtP w a p) := hA
  clear hA
  go_enter Tryd.func22, Tryd.ntmps22
  go_wp2_with fail
  go_loopg [3, 8] p.length (fun gk x3 i wr => ∃ (j : Nat) (v : Value), v = x3 ∧ i = .int .i64 j ∧ j + gk = p.length ∧ Hid (IRow 3 w.heap.size wr v (lockNs (p.take j))) ∧ Kept w wr)
  case atStart => exact ⟨0, _, rfl, rfl, by omega, IRow.nil _ _ _, Kept.refl w⟩
  case round =>
    obtain ⟨j, v3, hx3, rfl, hj, HM, K⟩ := hrel
    subst hx3
    by_cases hjp : j < p.length
    · obtain ⟨b, f, k, n, v, wt, l, ca, cc, rfl, hpj, g0, g1, g2, g3, g4, hcc, hat, hbl, hdr⟩ := (HA.out.kept K).get j hjp
      have b1 : (j : Int) < (p.length : Int) := by omega
      have b2 : (0 : Int) ≤ (j : Int) := by omega
      have HN := lockNs_next p j _ hpj
      simp only at HN
      have KA := K.alloc (.cells #[.int .i64 k, .int .i64 n, .int .i64 v, .int .i64 wt, .slice ca l.length cc] 77)
      obtain ⟨g3', rfl⟩ : ∃ g, gk = g + 1 := ⟨gk - 1, by omega⟩
      have hln : (lockNs (p.take j)).length ≤ 1000000 := by have := lockNs_len (p.take j); rw [List.length_take] at this; omega
      have hlb : w.heap.size ≤ (wr.alloc (.cells #[.int .i64 k, .int .i64 n, .int .i64 v, .int .i64 wt, .slice ca l.length cc] 77)).heap.size := KA.size
      clear hpj hat hdr
      by_cases h2 : k = 2
      · subst h2
        rw [if_pos rfl] at HN
        have HN2 : Hid (lockNs (p.take (j + 1)) = lockNs (p.take j) ++ [n]) := HN
        clear HN
        go_wp2_with (at_builtin; refine wpList_append_int nInt _ (by rfl) _ _ rfl w.heap.size v3 (lockNs (p.take j)) n (wr.alloc (.cells #[.int .i64 2, .int .i64 n, .int .i64 v, .int .i64 wt, .slice ca l.length cc] 77)) (by rfl) (by rfl) (wr.heap.size + 1) (by simp) (by rfl) (HM.out.kept ((Kept.refl wr).alloc _)) hln hlb ?_; intro g5 c5 w5 R5 gr5 at5; have K5 := irow_app HM.out K gr5 R5; rw [← HN2.out] at R5)
        go_roundg g3'
        case rel => exact ⟨j + 1, _, rfl, by go_num, by omega, R5, K5⟩
        case measure => omega
      · rw [if_neg h2, List.append_nil] at HN
        have HM2 : Hid (IRow 3 w.heap.size (wr.alloc (.cells #[.int .i64 k, .int .i64 n, .int .i64 v, .int .i64 wt, .slice ca l.length cc] 77)) v3 (lockNs (p.take (j + 1)))) := by show IRow _ _ _ _ _; rw [HN]; exact HM.out.kept ((Kept.refl wr).alloc _)
        have k2 : (k == 2) = false := beq_eq_false_iff_ne.2 h2
        clear HN
        go_wp2_with fail
        go_roundg g3'
        case rel => exact ⟨j + 1, v3, rfl, by go_num, by omega, HM2, KA⟩
        case measure => omega
    · have b1 : ¬ (j : Int) < (p.length : Int) := by omega
      have HM2 : Hid (IRow 3 w.heap.size wr v3 (lockNs p)) := by
        have h := HM.out
        rw [List.take_of_length_le (by omega)] at h
        exact h
      have hlp := lockNs_len p
      clear HM
      by_cases hz : (lockNs p).length = 0
      · have HD : Hid (locksD p = []) := by show _ = _; unfold locksD; rw [List.eq_nil_of_length_eq_zero hz]; simp [Lib.compact, Lib.compactUpTo]
        obtain ⟨va, vc, hv, _⟩ := HM2.out.form
        rw [hz] at hv
        subst hv
        go_wp2_with fail
        refine (Tryd.slices_Sort_int_none va vc wr).mono ?_
        rintro e w4 ⟨rfl, hw4⟩
        subst w4
        go_wp2_with fail
        refine (Tryd.slices_Compact_int_empty va vc wr).mono ?_
        rintro e w4 ⟨rfl, hw4⟩
        subst w4
        go_wp2_with fail
        go_ret
        rw [HD.out]
        exact ⟨va, vc, rfl, fun j x hx => by simp at hx, K⟩
      · obtain ⟨g, vc, hv, hvc, hg1, hg2⟩ := HM2.out.some (by omega)
        subst hv
        obtain ⟨zs, hzs⟩ : ∃ z, lockNs p = z := ⟨_, rfl⟩
        obtain ⟨ms, hms⟩ : ∃ z, zs.mergeSort (fun x y => decide (x ≤ y)) = z := ⟨_, rfl⟩
        rw [hzs] at HM2 hlp hz hvc ⊢
        have hml : ms.length = zs.length := by rw [← hms, List.length_mergeSort]
        have HD : Hid (locksD p = Lib.compact ms) := by show _ = _; unfold locksD; rw [hzs, hms]
        have hH := holds_row HM2.out
        have hso := Tryd.slices_Sort_int g 0 vc zs wr hH hg2 (by omega)
        rw [hms] at hso
        have hcl := compact_len ms
        have HL := fun n os q => locks_left (w := w) (n := n) (os := os) (q := q) hH hg1 hg2 K ms hml (Lib.compact ms ++ List.replicate (ms.length - (Lib.compact ms).length) 0) (by simp; omega) (Lib.compact ms) (fun j x hj => by rw [List.getElem?_append_left (List.getElem?_eq_some_iff.1 hj).1]; exact hj)
        have HHL : Hid (∀ n os q, _) := HL
        clear hms hzs HM2 HL hH
        go_wp2_with fail
        refine hso.mono ?_
        rintro e w4 ⟨rfl, n4, os4, hw4⟩
        have HW4 : Hid (w4 = Sort.grow (Sort.putRow (Value.int .i64) (Sort.ahead wr n4) g 0 ms.toArray) os4) := hw4
        clear hw4
        have hco := Tryd.slices_Compact_int g 0 vc ms w4 (by rw [HW4.out]; exact (HHL.out n4 os4 0).1) (by omega) (by omega)
        rw [hml] at hco
        go_wp2_with fail
        refine hco.mono ?_
        rintro e w5 ⟨rfl, q5, hw5⟩
        rw [HW4.out] at hw5
        have HW5 := (HHL.out n4 os4 q5).2
        rw [hml] at HW5
        rw [← hw5] at HW5
        clear hw5
        go_wp2_with fail
        go_ret
        rw [HD.out]
        exact ⟨_, _, rfl, HW5.1, HW5.2⟩
end Go.Proofs.YtolljdomnohmdaaDoor
namespace Go.Proofs.YtolljdomnohmdaaDoor

theorem strict_ext : ∀ (l m : List Int), l.Pairwise (· < ·) → m.Pairwise (· < ·) → (∀ x, x ∈ l ↔ x ∈ m) → l = m
  | [], [], _, _, _ => rfl
  | [], y :: m, _, _, h => by have := (h y).2 (by simp); cases this
  | x :: l, [], _, _, h => by have := (h x).1 (by simp); cases this
  | x :: l, y :: m, hl, hm, h => by
    rw [List.pairwise_cons] at hl hm
    have e : x = y := by
      have h1 := (h x).1 (by simp)
      have h2 := (h y).2 (by simp)
      rcases List.mem_cons.1 h1 with h1 | h1
      · exact h1
      · rcases List.mem_cons.1 h2 with h2 | h2
        · exact h2.symm
        · have := hm.1 x h1
          have := hl.1 y h2
          omega
    subst e
    rw [strict_ext l m hl.2 hm.2 (fun z => ?_)]
    constructor
    · intro hz
      rcases List.mem_cons.1 ((h z).1 (by simp [hz])) with e | e
      · have := hl.1 z hz; omega
      · exact e
    · intro hz
      rcases List.mem_cons.1 ((h z).2 (by simp [hz])) with e | e
      · have := hm.1 z hz; omega
      · exact e
theorem at_get (zs : List Int) (j : Nat) (h : j < zs.length) : zs.toArray[j]! = zs[j] := by
  simp [h]
theorem compact_mem (zs : List Int) (x : Int) : x ∈ Lib.compact zs ↔ x ∈ zs := by
  unfold Lib.compact Lib.compactUpTo
  constructor
  · intro h
    obtain ⟨j, hj, rfl⟩ := List.mem_map.1 h
    have hj2 := List.mem_range.1 (List.mem_filter.1 hj).1
    rw [at_get zs j hj2]
    exact List.getElem_mem hj2
  · intro h
    obtain ⟨j, hj, rfl⟩ := List.getElem_of_mem h
    have key : ∀ (i : Nat) (hi : i < zs.length), ∃ k, k < zs.length ∧ Lib.keeps zs.toArray k = true ∧ zs.toArray[k]! = zs[i] := by
      intro i
      induction i with
      | zero => intro hi; exact ⟨0, hi, by simp [Lib.keeps], at_get zs 0 hi⟩
      | succ i ih =>
        intro hi
        by_cases hk : Lib.keeps zs.toArray (i + 1) = true
        · exact ⟨i + 1, hi, hk, at_get zs _ hi⟩
        · obtain ⟨k, h1, h2, h3⟩ := ih (by omega)
          refine ⟨k, h1, h2, ?_⟩
          simp only [Lib.keeps, decide_eq_true_eq, not_or, Decidable.not_not] at hk
          have := hk.2
          rw [Nat.add_sub_cancel, at_get zs _ hi, at_get zs i (by omega)] at this
          rw [h3, this]
    obtain ⟨k, h1, h2, h3⟩ := key j hj
    exact List.mem_map.2 ⟨k, List.mem_filter.2 ⟨List.mem_range.2 h1, h2⟩, h3⟩
theorem compact_strict (zs : List Int) (hs : zs.Pairwise (· ≤ ·)) : (Lib.compact zs).Pairwise (· < ·) := by
  unfold Lib.compact Lib.compactUpTo
  rw [List.pairwise_map]
  have h1 : ((List.range zs.length).filter (Lib.keeps zs.toArray)).Pairwise (· < ·) := List.Pairwise.filter _ List.pairwise_lt_range
  refine List.Pairwise.imp_of_mem (fun {i j} hi hj hij => ?_) h1
  have hj1 := List.mem_range.1 (List.mem_filter.1 hj).1
  have hk := (List.mem_filter.1 hj).2
  simp only [Lib.keeps, decide_eq_true_eq] at hk
  have hle := List.pairwise_iff_getElem.1 hs
  rcases hk with hk | hk
  · omega
  · rw [at_get zs j hj1, at_get zs (j - 1) (by omega)] at hk
    rw [at_get zs j hj1, at_get zs i (by omega)]
    have h2 := hle (j - 1) j (by omega) hj1 (by omega)
    by_cases hij2 : i = j - 1
    · subst hij2
      omega
    · have h3 := hle i (j - 1) (by omega) (by omega) (by omega)
      omega
theorem sorted_le (l : List Int) : (l.mergeSort fun x y => decide (x ≤ y)).Pairwise (· ≤ ·) := by
  have h := List.pairwise_mergeSort (le := fun x y : Int => decide (x ≤ y)) (fun a b c h1 h2 => by simp at *; omega) (fun a b => by simp; omega) l
  exact h.imp (fun {a b} hab => by simpa using hab)
theorem locksD_strict (p : List OpD) : (locksD p).Pairwise (· < ·) := compact_strict _ (sorted_le _)
theorem locksD_mem (p : List OpD) (x : Int) : x ∈ locksD p ↔ x ∈ lockNs p := by
  unfold locksD
  rw [compact_mem]
  exact List.mem_mergeSort
end Go.Proofs.YtolljdomnohmdaaDoor
