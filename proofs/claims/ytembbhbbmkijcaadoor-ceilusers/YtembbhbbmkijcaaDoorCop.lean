/- appendCopies. -/
import Derived.Test.YtembbhbbmkijcaaDoorORw
import Derived.Deep.LoopGhost
namespace Go.Proofs.YtembbhbbmkijcaaDoor
open Go.RowKit

theorem ORow.turns {S : Nat → Prop} {B : Nat} {w w' : World} {v : Value} {p : List OpD} {svs : List Value} (h : ORow B w v p svs) (t : Turns S w w') (hS : ∀ q, S q → ¬ (B ≤ q ∧ q < w.heap.size)) : ORow B w' v p svs :=
  ⟨h.len, owns_turns h.row t (fun k hk e => hS k e (World.ownsRow.lt h.row k hk)), fun j o sv h1 h2 => ⟨(h.cs j o sv h1 h2).1.turns t (fun k hk e => hS k e (World.ownsRow.lt (h.cs j o sv h1 h2).1 k hk)), (h.cs j o sv h1 h2).2⟩⟩
theorem ORow.lt {B : Nat} {w : World} {v : Value} {p : List OpD} {svs : List Value} (h : ORow B w v p svs) : ∀ k, v.ownBlock = some k → B ≤ k ∧ k < w.heap.size := fun k hk => World.ownsRow.lt h.row k hk
theorem CRow.base {e : TypeId} {B B' : Nat} {w : World} {v : Value} {l : List CaseD} (h : CRow e B w v l) (hB : B' ≤ B) : CRow e B' w v l := by
  refine ⟨h.1, ?_⟩
  rcases h.2 with hn | ⟨g, cap, cur, h1, hb, rest⟩
  · exact .inl hn
  · exact .inr ⟨g, cap, cur, h1, by omega, rest⟩
theorem take_snoc {r : List OpD} {j : Nat} {o : OpD} (h : r[j]? = some o) (p : List OpD) : p ++ r.take (j + 1) = (p ++ r.take j) ++ [o] := by
  rw [List.take_add_one, h]
  simp
/-- What there is in the midst of appendCopies. -/
structure Cp (B : Nat) (v1 : Value) (w wr : World) (vj : Value) (p : List OpD) : Prop where
  row : ∃ svs, ORow B wr vj p svs
  old : vj.ownBlock = v1.ownBlock ∨ ∀ q, vj.ownBlock = some q → w.heap.size ≤ q
  trn : Turns (fun k => v1.ownBlock = some k) w wr
theorem Cp.next {B : Nat} {v1 : Value} {w wr w2 w5 : World} {vj : Value} {p : List OpD} {o : OpD} {g n c sb : Nat} {v : Value} {svs : List Value} (h : Cp B v1 w wr vj p) (t1 : Kept wr w2) (hsb : wr.heap.size ≤ sb) (t2 : Turns (fun k => vj.ownBlock = some k) (w2.setCell ⟨sb, 4, none⟩ v) w5) (hg : vj.ownBlock = some g ∨ (w2.setCell ⟨sb, 4, none⟩ v).heap.size < g)
    (r : ORow B w5 (.slice (some ⟨g, 0, none⟩) n c) (p ++ [o]) svs) : Cp B v1 w w5 (.slice (some ⟨g, 0, none⟩) n c) (p ++ [o]) := by
  have hsz : (w2.setCell ⟨sb, 4, none⟩ v).heap.size = w2.heap.size := by simp [World.setCell]
  have h1 := h.trn.size
  have h2 := t1.size
  refine ⟨⟨svs, r⟩, ?_, ?_⟩
  · rcases hg with hg | hg
    · rcases h.old with h3 | h3
      · left; rw [← h3, hg]; rfl
      · right; intro q hq; simp [Value.ownBlock] at hq; subst hq; exact h3 g hg
    · right; intro q hq; simp [Value.ownBlock] at hq; omega
  · refine ((h.trn.next t1.turns (fun i _ hi => hi.elim)).next (turn_set w2 sb 4 v) (fun i hi e => by omega)).next t2 (fun i hi e => ?_)
    rcases h.old with h3 | h3
    · rw [← h3]; exact e
    · have := h3 i e; omega

theorem cop_mid {B : Nat} {wr w2 : World} {vj : Value} {p : List OpD} {svs : List Value} {l : List CaseD} {sv : Value} (h : ORow B wr vj p svs) (hB : B ≤ wr.heap.size) (K : Kept wr w2) (R : CRow 112 (wr.heap.size + 1) w2 sv l) :
    ORow B (w2.setCell ⟨wr.heap.size, 4, none⟩ sv) vj p svs ∧ CRow 112 B (w2.setCell ⟨wr.heap.size, 4, none⟩ sv) sv l ∧ (∀ q, sv.ownBlock = some q → vj.ownBlock ≠ some q) ∧ B ≤ (w2.setCell ⟨wr.heap.size, 4, none⟩ sv).heap.size := by
  have t1 : Turns (fun k => k = wr.heap.size) wr (w2.setCell ⟨wr.heap.size, 4, none⟩ sv) := (K.turns.mono (fun _ _ h => h.elim)).trans (turn_set w2 wr.heap.size 4 sv)
  have hsz : (w2.setCell ⟨wr.heap.size, 4, none⟩ sv).heap.size = w2.heap.size := by simp [World.setCell]
  have hk := K.size
  refine ⟨h.turns t1 (fun q hq h => by omega), (R.turns (turn_set w2 wr.heap.size 4 sv) (fun q hq e => by have := (World.ownsRow.lt R q hq).1; omega)).base (by omega), fun q hq e => ?_, by omega⟩
  have h1 := (World.ownsRow.lt R q hq).1
  have h2 := (h.lt q e).2
  omega
set_option maxHeartbeats 4000000 in
set_option maxRecDepth 10000 in
theorem copies_any (B : Nat) (v1 : Value) (p : List OpD) (a : Option Addr) (c : Nat) (r : List OpD) (w : World) (h1 : ∃ svs, ORow B w v1 p svs) (hA : ∀ w', Turns (fun k => v1.ownBlock = some k) w w' → AtP w' a r) (hC : ∀ o ∈ r, o.cases.length ≤ 1000000) (hl : p.length + r.length ≤ 1000000) (hB : B ≤ w.heap.size) :
    Calls Tryd.prog 53 #[v1, .slice a r.length c] w fun e w' => ∃ v, e = .returned v ∧ (∃ svs, ORow B w' v (p ++ r) svs) ∧ (v.ownBlock = v1.ownBlock ∨ ∀ q, v.ownBlock = some q → w.heap.size ≤ q) ∧ Turns (fun k => v1.ownBlock = some k) w w' := by
  have HA : Hid (∀ w', Turns (fun k => v1.ownBlock = some k) w w' → AtP w' a r) := hA
  have HC : Hid (∀ o ∈ r, o.cases.length ≤ 1000000) := hC
  have M0 : Hid (Cp B v1 w w v1 (p ++ r.take 0)) := ⟨by simpa using h1, .inl rfl, Turns.refl _ _⟩
  clear hA hC h1
  go_enter Tryd.func53, Tryd.ntmps53
  go_wp2_with fail
  go_loopg [0, 9] r.length (fun gk x0 i wr => ∃ (j : Nat) (vj : Value), vj = x0 ∧ i = .int .i64 j ∧ j + gk = r.length ∧ Hid (Cp B v1 w wr vj (p ++ r.take j)))
  case atStart => exact ⟨0, v1, rfl, rfl, by omega, M0⟩
  case round =>
    obtain ⟨j, vj, hx0, rfl, hj, HM⟩ := hrel
    subst hx0
    by_cases hjr : j < r.length
    · have hat0 := HA.out wr HM.out.trn
      obtain ⟨b, f, k, n, v, wt, l, ca, cc, rfl, hpj, g0, g1, g2, g3, g4, hcc, hat, hbl, hdr⟩ := hat0.get j hjr
      have hnn := hat0.nil0 hpj g4
      have b1 : (j : Int) < (r.length : Int) := by omega
      have b2 : (0 : Int) ≤ (j : Int) := by omega
      have hll : l.length ≤ 1000000 := HC.out _ (List.mem_of_getElem? hpj)
      obtain ⟨svs, hrow⟩ := HM.out.row
      have HROW : Hid (ORow B wr vj (p ++ r.take j) svs) := hrow
      have HN : Hid (p ++ r.take (j + 1) = (p ++ r.take j) ++ [⟨k, n, v, wt, l⟩]) := take_snoc hpj p
      have hlt : (p ++ r.take j).length ≤ 1000000 := by rw [List.length_append, List.length_take]; omega
      have HBs : Hid (B ≤ wr.heap.size) := by show _ ≤ _; have := HM.out.trn.size; omega
      have KA := (Kept.refl wr).alloc (.cells #[.int .i64 k, .int .i64 n, .int .i64 v, .int .i64 wt, .slice ca l.length cc] 31)
      have BO := box_new wr.heap.size wr 31 [.int .i64 k, .int .i64 n, .int .i64 v, .int .i64 wt, .slice ca l.length cc] (Nat.le_refl _) (by simp)
      have hsz : (wr.alloc (.cells #[.int .i64 k, .int .i64 n, .int .i64 v, .int .i64 wt, .slice ca l.length cc] 31)).heap.size = wr.heap.size + 1 := by simp
      have hatA := hat.kept KA
      obtain ⟨g3', rfl⟩ : ∃ g, gk = g + 1 := ⟨gk - 1, by omega⟩
      clear hpj hdr hat hat0 hrow
      go_wp2_with (at_builtin; first | (refine wpList_append_op _ (by rfl) _ _ rfl B vj (p ++ r.take j) svs k n v wt l (.slice sa l.length sc) (w2.setCell ⟨wr.heap.size, 4, none⟩ (.slice sa l.length sc)) (by rfl) (by rfl) w2.heap.size (by simp [World.setCell]) (by rfl) P3.1 P3.2.1 P3.2.2.1 hlt P3.2.2.2 ?_; intro g5 c5 w5 R5 t5 hg5; have M5 := HM.out.next (KA.trans K2) (Nat.le_refl _) t5 hg5 R5; rw [← HN.out] at M5) | (refine wpList_copy_cases _ (by rfl) _ _ rfl ca cc l (by rfl) (by rfl) hnn hatA hll ?_; intro sv w2 R2 K2; obtain ⟨sa, sc, hsv, _, _⟩ := R2.at; subst hsv; rw [hsz] at R2; have BO2 := BO.kept K2; have o0 : w2.cell? ⟨wr.heap.size, 0, none⟩ = some (.int .i64 k) := BO2.cell 0 (by simp); have o1 : w2.cell? ⟨wr.heap.size, 1, none⟩ = some (.int .i64 n) := BO2.cell 1 (by simp); have o2 : w2.cell? ⟨wr.heap.size, 2, none⟩ = some (.int .i64 v) := BO2.cell 2 (by simp); have o3 : w2.cell? ⟨wr.heap.size, 3, none⟩ = some (.int .i64 wt) := BO2.cell 3 (by simp); have o4 : w2.cell? ⟨wr.heap.size, 4, none⟩ = some (.slice ca l.length cc) := BO2.cell 4 (by simp); have of4 := BO2.frozen 4; have ol := BO2.lt.2; have P3 := cop_mid HROW.out HBs.out (KA.trans K2) R2) | fail)
      go_roundg g3'
      case rel =>
        rw [List.length_append, List.length_take] at M5
        exact ⟨j + 1, _, rfl, by go_num, by omega, M5⟩
      case measure => omega
    · have b1 : ¬ (j : Int) < (r.length : Int) := by omega
      have e : p ++ r.take j = p ++ r := by rw [List.take_of_length_le (by omega)]
      go_wp2_with fail
      go_ret
      have h := HM.out
      rw [e] at h
      exact ⟨_, rfl, h.row, h.old, h.trn⟩
end Go.Proofs.YtembbhbbmkijcaaDoor
