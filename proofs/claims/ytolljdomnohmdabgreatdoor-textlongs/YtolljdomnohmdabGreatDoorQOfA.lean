/- OfAll, of the law's package. -/
import Derived.ProofKit
import Derived.OpenShut
import Derived.ShutString
import Derived.ChangeOld
import Derived.ChangeArms
import Derived.WideShapes
import Derived.Below
import Derived.Deep.Slices
import Derived.Deep.SlicePairs
import Derived.Test.YtolljdomnohmdabGreatDoorM2
import Derived.Test.YtolljdomnohmdabGreatDoorCas
import Derived.Test.YtolljdomnohmdabGreatDoorCheck
import Derived.Test.YtolljdomnohmdabGreatDoorM3
import Derived.Test.YtolljdomnohmdabGreatDoorM4
import Derived.Test.YtolljdomnohmdabGreatDoorM0
import Derived.Test.YtolljdomnohmdabGreatDoorM1
import Derived.Test.YtolljdomnohmdabGreatDoorOpT
import Derived.Test.YtolljdomnohmdabGreatDoorPar
import Derived.Test.YtolljdomnohmdabGreatDoorM7
import Derived.Test.YtolljdomnohmdabGreatDoorTxt
import Derived.Test.YtolljdomnohmdabGreatDoorRWrd
import Derived.Test.YtolljdomnohmdabGreatDoorM5
import Derived.Test.YtolljdomnohmdabGreatDoorRead
import Derived.Test.YtolljdomnohmdabGreatDoorM8
import Derived.Test.YtolljdomnohmdabGreatDoorTrn
import Derived.Test.YtolljdomnohmdabGreatDoorM10
import Derived.Test.YtolljdomnohmdabGreatDoorM12
namespace Go.Proofs.YtolljdomnohmdabGreatDoor
open Go.RowKit

/-- A row of ops that the call owns, each with cases of its own. -/
structure QRow (B : Nat) (w : World) (v : Value) (p : List OpD) (svs : List Value) : Prop where
  len : svs.length = p.length
  row : w.ownsRow B 102 5 v p.length (flatO p svs)
  cs : ∀ (j : Nat) (o : OpD) (sv : Value), p[j]? = some o → svs[j]? = some sv → CRow 108 B w sv o.cases ∧ ∀ q, sv.ownBlock = some q → v.ownBlock ≠ some q
theorem QRow.nil (B : Nat) (w : World) : QRow B w (.slice none 0 0) [] [] := ⟨rfl, World.ownsRow_nil _ _ _ _, fun j o sv h _ => by simp at h⟩
theorem QRow.kept {B : Nat} {w w' : World} {v : Value} {p : List OpD} {svs : List Value} (h : QRow B w v p svs) (t : Kept w w') : QRow B w' v p svs := ⟨h.len, own_kept h.row t, fun j o sv h1 h2 => ⟨(h.cs j o sv h1 h2).1.kept t, (h.cs j o sv h1 h2).2⟩⟩
theorem QRow.base {B B' : Nat} {w : World} {v : Value} {p : List OpD} {svs : List Value} (h : QRow B w v p svs) (hB : B' ≤ B) : QRow B' w v p svs := by
  have lift : ∀ {e : TypeId} {size : Nat} {v : Value} {n : Nat} {xs : List Value}, w.ownsRow B e size v n xs → w.ownsRow B' e size v n xs := by
    intro e size v n xs h
    refine ⟨h.1, ?_⟩
    rcases h.2 with hn | ⟨g, cap, cur, h1, hb, rest⟩
    · exact .inl hn
    · exact .inr ⟨g, cap, cur, h1, by omega, rest⟩
  exact ⟨h.len, lift h.row, fun j o sv h1 h2 => ⟨lift (h.cs j o sv h1 h2).1, (h.cs j o sv h1 h2).2⟩⟩
theorem QRow.view {B : Nat} {w : World} {v : Value} {p : List OpD} {svs : List Value} (h : QRow B w v p svs) : ∃ a c, v = .slice a p.length c ∧ p.length ≤ c ∧ (a = none → c = 0) ∧ AtP w a p := by
  rcases h.row.2 with ⟨h1, h2⟩ | ⟨g, cap, cur, h1, _, _, h3, _⟩
  · refine ⟨none, 0, by rw [h1, h2], by omega, fun _ => rfl, ?_⟩
    rw [List.eq_nil_of_length_eq_zero h2]
    exact AtP.nil _ _
  · refine ⟨some ⟨g, 0, none⟩, cap, h1, h3, (fun e => by cases e), ?_⟩
    intro j o hj
    refine ⟨g, 0, rfl, ?_⟩
    have hjl : j < svs.length := by rw [h.len]; exact (List.getElem?_eq_some_iff.1 hj).1
    have hsv : svs[j]? = some svs[j] := List.getElem?_eq_getElem hjl
    have hrow := h.row
    rw [h1] at hrow
    have hc : ∀ i, i < 5 → w.cell? ⟨g, 0 + j * 5 + i, none⟩ = (opV o svs[j])[i]? := by
      intro i hi
      have hjp := h.len
      rw [Nat.zero_add, hrow.cellAt (j * 5 + i) (by omega), flatO_get p svs j i o svs[j] hj hsv hi]
    obtain ⟨hcr, _⟩ := h.cs j o svs[j] hj hsv
    obtain ⟨ca, cc, e1, e2, e3⟩ := hcr.at
    have e4 : ca = none → cc = 0 := by
      intro e
      rcases hcr.2 with ⟨h1, _⟩ | ⟨g', cap', cur', h1, _⟩
      · exact (Value.slice.inj (e1.symm.trans h1)).2.2
      · have h5 := (Value.slice.inj (e1.symm.trans h1)).1
        rw [e] at h5
        cases h5
    refine ⟨hc 0 (by omega), hc 1 (by omega), hc 2 (by omega), hc 3 (by omega), ca, cc, ?_, e2, e4, e3⟩
    rw [hc 4 (by omega), ← e1]
    rfl
theorem infoQ : (Tryz.prog.info? 102).map (fun i => (i.zero, i.size, i.bytes)) = some (some (.agg #[.int .i64 0, .int .i64 0, .int .i64 0, .int .i64 0, .slice none 0 0]), 5, 56) := by kernel_rfl
/-- One op behind a row of ops. -/
theorem wpList_append_rop (w : World) {ops : Array Oper} {rest : List Oper} {o : Oper} {a : Act} {Q : Exit → Act → World → Prop} (hw : Region.wanted o (yielded ops a.tmps) = true) (s x : Operand)
    (ho : o.op = .call { callee := .builtin .append, args := #[s, x], argTypes := #[72, 72] })
    (B : Nat) (v1 : Value) (p : List OpD) (svs : List Value) (k n v wt : Int) (l : List CaseD) (sv : Value) (W : World) (hw1 : w = W.alloc (.cells #[.int .i64 k, .int .i64 n, .int .i64 v, .int .i64 wt, sv] 102)) (hs : a.eval s = v1) (nb : Nat) (hnb : nb = W.heap.size) (hx : a.eval x = .slice (some ⟨nb, 0, none⟩) 1 1)
    (h1 : QRow B W v1 p svs) (hc : CRow 108 B W sv l) (hq : ∀ q, sv.ownBlock = some q → v1.ownBlock ≠ some q) (hl : p.length ≤ 1000000) (hB : B ≤ W.heap.size)
    (h : ∀ g cap w', QRow B w' (.slice (some ⟨g, 0, none⟩) (p.length + 1) cap) (p ++ [⟨k, n, v, wt, l⟩]) (svs ++ [sv]) → Turns (fun k => v1.ownBlock = some k) W w' → (v1.ownBlock = some g ∨ W.heap.size < g) → wpList Tryz.prog ops Q rest (a.put o.dst (.slice (some ⟨g, 0, none⟩) (p.length + 1) cap)) w') :
    wpList Tryz.prog ops Q (o :: rest) a w := by
  subst hw1
  subst hnb
  refine wpList_step fun K hK => ?_
  rw [if_pos hw]
  obtain ⟨i, hi, hz0, hz1, hz2⟩ := info_parts infoQ
  obtain ⟨sa, sc, hsv, _, _⟩ := hc.at
  have hone : sv.oneCell' = true := by rw [hsv]; rfl
  have hcc : ∀ j u, (flatO [⟨k, n, v, wt, l⟩] [sv])[j]? = some u → (W.alloc (.cells #[.int .i64 k, .int .i64 n, .int .i64 v, .int .i64 wt, sv] 102)).cell? (Addr.add ⟨W.heap.size, 0, none⟩ j) = some u := by
    intro j u hu
    rw [Addr.add_lit, Nat.zero_add, World.cell?_alloc_at _ _ _ _ rfl]
    simpa [flatO, opV] using hu
  have h1' : (W.alloc (.cells #[.int .i64 k, .int .i64 n, .int .i64 v, .int .i64 wt, sv] 102)).ownsRow B 102 5 v1 p.length (flatO p svs) := World.ownsRow.alloc h1.row _
  have hB' := le_alloc (.cells #[.int .i64 k, .int .i64 n, .int .i64 v, .int .i64 wt, sv] 102) hB
  obtain ⟨v', w', hr, k1, k2, k3, k4⟩ := run_append_own_at (P := Tryz.prog) (W.alloc (.cells #[.int .i64 k, .int .i64 n, .int .i64 v, .int .i64 wt, sv] 102)) B 72 o.type 102 i _ 5 56 Tryz.underlying72 hi hz0 hz1 hz2 rfl (by omega) _ p.length (flatO p svs) h1' ⟨W.heap.size, 0, none⟩ 1 1 (flatO [⟨k, n, v, wt, l⟩] [sv]) (by simp [flatO, opV]) hcc (flatO_one _ _ (fun s hs => by simp at hs; subst hs; exact hone)) (by unfold maxLen; omega) (by omega) hB'
  obtain ⟨g, cap, rfl⟩ := own_form k1 (fun e => by have := k3.1 e; have := this.2; omega)
  have t : Turns (fun k => v1.ownBlock = some k) W w' := ((Turns.refl _ W).alloc _).trans (Turns.grown k2 (fun k e => e))
  have hg : v1.ownBlock = some g ∨ W.heap.size < g := by
    rcases k4 with k4 | k4
    · exact .inl k4.symm
    · right; simp [Value.ownBlock] at k4; omega
  have far : ∀ (s : Value) (c : List CaseD), CRow 108 B W s c → (∀ q, s.ownBlock = some q → v1.ownBlock ≠ some q) → CRow 108 B w' s c ∧ ∀ q, s.ownBlock = some q → (Value.slice (some ⟨g, 0, none⟩) (p.length + 1) cap).ownBlock ≠ some q := by
    intro s c h2 h3
    refine ⟨h2.turns t (fun q hq e => h3 q hq e), fun q hq e => ?_⟩
    simp [Value.ownBlock] at e
    subst e
    have hlt := (World.ownsRow.lt h2 g hq).2
    rcases hg with h4 | h4
    · exact h3 g hq h4
    · omega
  unfold Oper.wp
  simp [execOp, ho, resolve, invoke, builtin, hs, hx, hr, Result.andThen]
  refine hK _ _ (h g cap w' ⟨by simp [h1.len], ?_, ?_⟩ t hg)
  · rw [flatO_append p svs _ _ h1.len, List.length_append]
    simpa [flatO] using k1
  · intro j o' s' hj hs'
    by_cases hjp : j < p.length
    · rw [List.getElem?_append_left hjp] at hj
      rw [List.getElem?_append_left (by rw [h1.len]; exact hjp)] at hs'
      obtain ⟨c1, c2⟩ := h1.cs j o' s' hj hs'
      exact far s' _ c1 c2
    · have hj2 : j = p.length := by
        have := (List.getElem?_eq_some_iff.1 hj).1
        simp at this
        omega
      subst hj2
      rw [List.getElem?_append_right (by omega)] at hj
      rw [List.getElem?_append_right (by rw [h1.len]; omega), h1.len] at hs'
      simp at hj hs'
      subst hj hs'
      exact far _ _ hc hq
theorem QRow.lt {B : Nat} {w : World} {v : Value} {p : List OpD} {svs : List Value} (h : QRow B w v p svs) : ∀ k, v.ownBlock = some k → B ≤ k ∧ k < w.heap.size := fun k hk => World.ownsRow.lt h.row k hk
set_option maxHeartbeats 4000000 in
theorem ofAll_any (a : Option Addr) (c : Nat) (p : List OpD) (w : World) (hA : AtP w a p) (hp : p.length ≤ 100000) (hc : ∀ o ∈ p, o.cases.length ≤ 1000000) :
    Calls Tryz.prog 25 #[.slice a p.length c] w fun e w' => ∃ v, e = .returned v ∧ (∃ svs, QRow w.heap.size w' v p svs) ∧ Kept w w' := by
  have HA : Hid (AtP w a p) := hA
  have HC : Hid (∀ o ∈ p, o.cases.length ≤ 1000000) := hc
  clear hA hc
  have M0 : ∀ w', Hid (∃ svs, QRow w.heap.size w' (.slice none 0 0) (p.take 0) svs) := fun w' => ⟨[], QRow.nil _ _⟩
  go_enter Tryz.func25, Tryz.ntmps25
  go_wp2_with fail
  go_loopg [3, 4] p.length (fun gk x3 i wr => ∃ (j : Nat) (v : Value), v = x3 ∧ i = .int .i64 j ∧ j + gk = p.length ∧ Hid (∃ svs, QRow w.heap.size wr v (p.take j) svs) ∧ Kept w wr)
  case atStart => exact ⟨0, _, rfl, rfl, by omega, M0 w, Kept.refl w⟩
  case round =>
    obtain ⟨j, v3, hx3, rfl, hj, HM, K⟩ := hrel
    subst hx3
    by_cases hjp : j < p.length
    · obtain ⟨b, f, k, n, v, wt, l, ca, cc, rfl, hpj, g0, g1, g2, g3, g4, hcc, hat, hbl, hdr⟩ := (HA.out.kept K).get j hjp
      have b1 : (j : Int) < (p.length : Int) := by omega
      have b2 : (0 : Int) ≤ (j : Int) := by omega
      have hll : l.length ≤ 1000000 := HC.out _ (List.mem_of_getElem? hpj)
      have hto := of_any k n v wt ca l.length cc l wr hat hll
      have HTK : Hid (p.take (j + 1) = p.take j ++ [⟨k, n, v, wt, l⟩]) := by show _ = _; rw [List.take_add_one, hpj]; rfl
      obtain ⟨g3', rfl⟩ : ∃ g, gk = g + 1 := ⟨gk - 1, by omega⟩
      clear hpj hat hdr
      go_wp2_with fail
      refine hto.mono ?_
      rintro e w2 ⟨sv, rfl, hcr, t2⟩
      obtain ⟨svs, hM⟩ := HM.out
      have HM2 : Hid (QRow w.heap.size w2 v3 (p.take j) svs) := hM.kept t2
      have HCR : Hid (CRow 108 w.heap.size w2 sv l) := hcr.base K.size
      have HQ : Hid (∀ q, sv.ownBlock = some q → v3.ownBlock ≠ some q) := fun q hq e2 => by
        have h1 := (World.ownsRow.lt hcr q hq).1
        have h2 := (hM.lt q e2).2
        omega
      have HOWN : Hid (∀ i, v3.ownBlock = some i → w.heap.size ≤ i) := fun i hi => (hM.lt i hi).1
      have K2 := K.trans t2
      have hlen : (p.take j).length ≤ 1000000 := by rw [List.length_take]; omega
      clear hM hcr hto
      go_wp2_with (at_builtin; refine wpList_append_rop _ (by rfl) _ _ rfl w.heap.size v3 (p.take j) svs k n v wt l sv w2 (by rfl) (by rfl) w2.heap.size (by rfl) (by rfl) HM2.out HCR.out HQ.out hlen K2.size ?_; intro g5 c5 w5 R5 t5 hg5; have K5 := t5.kept K2 HOWN.out)
      go_roundg g3'
      case rel =>
        refine ⟨j + 1, _, rfl, by go_num, by omega, ?_, K5⟩
        rw [HTK.out]
        rw [List.length_take] at R5
        exact ⟨_, R5⟩
      case measure => omega
    · have b1 : ¬ (j : Int) < (p.length : Int) := by omega
      go_wp2_with fail
      go_ret
      refine ⟨_, rfl, ?_, K⟩
      have h := HM.out
      rw [List.take_of_length_le (by omega)] at h
      exact h

end Go.Proofs.YtolljdomnohmdabGreatDoor
