/- Few, ToAll and the reference's ProgWaits, of a program. -/
import Derived.Test.YtolljdomnohmdaaGreatDoorM2
import Derived.Test.YtolljdomnohmdaaGreatDoorCas
import Derived.Test.YtolljdomnohmdaaGreatDoorCheck
import Derived.Test.YtolljdomnohmdaaGreatDoorM3
import Derived.Test.YtolljdomnohmdaaGreatDoorM4
import Derived.Test.YtolljdomnohmdaaGreatDoorM0
import Derived.Test.YtolljdomnohmdaaGreatDoorM5
import Derived.Test.YtolljdomnohmdaaGreatDoorOpO
import Derived.Test.YtolljdomnohmdaaGreatDoorM1
import Derived.Test.YtolljdomnohmdaaGreatDoorOpT
import Derived.Test.YtolljdomnohmdaaGreatDoorPar
import Derived.Test.YtolljdomnohmdaaGreatDoorM6
import Derived.Test.YtolljdomnohmdaaGreatDoorM8
import Derived.Test.YtolljdomnohmdaaGreatDoorTxt
import Derived.Test.YtolljdomnohmdaaGreatDoorRWrd
import Derived.Test.YtolljdomnohmdaaGreatDoorRead
import Derived.Test.YtolljdomnohmdaaGreatDoorM9
import Derived.Test.YtolljdomnohmdaaGreatDoorTrn
import Derived.Test.YtolljdomnohmdaaGreatDoorM11
import Derived.Test.YtolljdomnohmdaaGreatDoorM13
import Derived.Test.YtolljdomnohmdaaGreatDoorM12
namespace Go.Proofs.YtolljdomnohmdaaGreatDoor
open Go.RowKit

def fewGo : List OpD → Bool
  | [] => true
  | o :: r => if o.cases.length ≤ 20 then fewGo r else false
def fewP (p : List OpD) : Bool := if 60 < p.length then false else fewGo p
theorem few_all : ∀ (p : List OpD), fewGo p = true → ∀ o ∈ p, o.cases.length ≤ 20
  | [], _, o, ho => by cases ho
  | x :: r, h, o, ho => by
    rw [fewGo] at h
    split at h
    · rename_i hx
      rcases List.mem_cons.1 ho with rfl | ho
      · exact hx
      · exact few_all r h o ho
    · cases h

set_option maxHeartbeats 2000000 in
theorem pfew_any (a : Option Addr) (c : Nat) (p : List OpD) (w : World) (hA : AtP w a p) :
    Calls Tryz.prog 17 #[.slice a p.length c] w fun e w' => e = .returned (.bool (fewP p)) ∧ Kept w w' := by
  have HA : Hid (AtP w a p) := hA
  clear hA
  by_cases h60 : 60 < p.length
  · have b1 : (p.length : Int) > 60 := by omega
    have HZ : Hid (fewP p = false) := by show _ = _; unfold fewP; rw [if_pos h60]
    go_enter Tryz.func17, Tryz.ntmps17
    go_wp2_with fail
    go_ret
    rw [HZ.out]
    exact ⟨rfl, Kept.refl w⟩
  have b0 : ¬ (p.length : Int) > 60 := by omega
  have HF : Hid (fewP p = fewGo p) := by show _ = _; unfold fewP; rw [if_neg h60]
  go_enter Tryz.func17, Tryz.ntmps17
  go_wp2_with fail
  go_loopg [3] p.length (fun gk i wr => ∃ j : Nat, i = .int .i64 j ∧ j + gk = p.length ∧ Hid (fewGo p = fewGo (p.drop j)) ∧ Kept w wr)
  case atStart => exact ⟨0, rfl, by omega, (by show _ = _; rw [List.drop_zero]), Kept.refl w⟩
  case round =>
    obtain ⟨j, rfl, hj, HE, K⟩ := hrel
    by_cases hjp : j < p.length
    · obtain ⟨b, f, k, n, v, wt, l, ca, cc, rfl, hpj, g0, g1, g2, g3, g4, hcc, hat, hbl, hdr⟩ := (HA.out.kept K).get j hjp
      have b1 : (j : Int) < (p.length : Int) := by omega
      have b2 : (0 : Int) ≤ (j : Int) := by omega
      have hfe := few_any k n v wt ca l.length cc wr
      have HE2 : Hid (fewGo p = if l.length ≤ 20 then fewGo (p.drop (j + 1)) else false) := by show _ = _; rw [HE.out, hdr, fewGo]
      obtain ⟨g3', rfl⟩ : ∃ g, gk = g + 1 := ⟨gk - 1, by omega⟩
      clear hpj hat hdr HE
      by_cases hl : l.length ≤ 20
      · rw [decide_eq_true hl] at hfe
        have HZ : Hid (fewGo p = fewGo (p.drop (j + 1))) := by show _ = _; rw [HE2.out, if_pos hl]
        clear HE2 hl
        go_wp2_with fail
        refine hfe.mono ?_
        rintro e w2 ⟨rfl, t2⟩
        go_wp2_with fail
        go_roundg g3'
        case rel => exact ⟨j + 1, by go_num, by omega, HZ, K.trans t2⟩
        case measure => omega
      · rw [decide_eq_false hl] at hfe
        have HZ : Hid (fewP p = false) := by show _ = _; rw [HF.out, HE2.out, if_neg hl]
        clear HE2 hl
        go_wp2_with fail
        refine hfe.mono ?_
        rintro e w2 ⟨rfl, t2⟩
        go_wp2_with fail
        go_ret
        rw [HZ.out]
        exact ⟨rfl, K.trans t2⟩
    · have b1 : ¬ (j : Int) < (p.length : Int) := by omega
      have HZ : Hid (fewP p = true) := by show _ = _; rw [HF.out, HE.out, List.drop_eq_nil_of_le (by omega)]; rfl
      go_wp2_with fail
      go_ret
      rw [HZ.out]
      exact ⟨rfl, K⟩

set_option maxHeartbeats 4000000 in
theorem toAll_any (a : Option Addr) (c : Nat) (p : List OpD) (w : World) (hA : AtP w a p) (hp : p.length ≤ 100000) (hc : ∀ o ∈ p, o.cases.length ≤ 1000000) :
    Calls Tryz.prog 24 #[.slice a p.length c] w fun e w' => ∃ v, e = .returned v ∧ (∃ svs, ORow w.heap.size w' v p svs) ∧ Kept w w' := by
  have HA : Hid (AtP w a p) := hA
  have HC : Hid (∀ o ∈ p, o.cases.length ≤ 1000000) := hc
  clear hA hc
  have M0 : ∀ w', Hid (∃ svs, ORow w.heap.size w' (.slice none 0 0) (p.take 0) svs) := fun w' => ⟨[], ORow.nil _ _⟩
  go_enter Tryz.func24, Tryz.ntmps24
  go_wp2_with fail
  go_loopg [3, 4] p.length (fun gk x3 i wr => ∃ (j : Nat) (v : Value), v = x3 ∧ i = .int .i64 j ∧ j + gk = p.length ∧ Hid (∃ svs, ORow w.heap.size wr v (p.take j) svs) ∧ Kept w wr)
  case atStart => exact ⟨0, _, rfl, rfl, by omega, M0 w, Kept.refl w⟩
  case round =>
    obtain ⟨j, v3, hx3, rfl, hj, HM, K⟩ := hrel
    subst hx3
    by_cases hjp : j < p.length
    · obtain ⟨b, f, k, n, v, wt, l, ca, cc, rfl, hpj, g0, g1, g2, g3, g4, hcc, hat, hbl, hdr⟩ := (HA.out.kept K).get j hjp
      have b1 : (j : Int) < (p.length : Int) := by omega
      have b2 : (0 : Int) ≤ (j : Int) := by omega
      have hll : l.length ≤ 1000000 := HC.out _ (List.mem_of_getElem? hpj)
      have hto := to_any k n v wt ca l.length cc l wr hat hll
      have HTK : Hid (p.take (j + 1) = p.take j ++ [⟨k, n, v, wt, l⟩]) := by show _ = _; rw [List.take_add_one, hpj]; rfl
      obtain ⟨g3', rfl⟩ : ∃ g, gk = g + 1 := ⟨gk - 1, by omega⟩
      clear hpj hat hdr
      go_wp2_with fail
      refine hto.mono ?_
      rintro e w2 ⟨sv, rfl, hcr, t2⟩
      obtain ⟨svs, hM⟩ := HM.out
      have HM2 : Hid (ORow w.heap.size w2 v3 (p.take j) svs) := hM.kept t2
      have HCR : Hid (CRow 127 w.heap.size w2 sv l) := hcr.base K.size
      have HQ : Hid (∀ q, sv.ownBlock = some q → v3.ownBlock ≠ some q) := fun q hq e2 => by
        have h1 := (World.ownsRow.lt hcr q hq).1
        have h2 := (hM.lt q e2).2
        omega
      have HOWN : Hid (∀ i, v3.ownBlock = some i → w.heap.size ≤ i) := fun i hi => (hM.lt i hi).1
      have K2 := K.trans t2
      have hlen : (p.take j).length ≤ 1000000 := by rw [List.length_take]; omega
      clear hM hcr hto
      go_wp2_with (at_builtin; refine wpList_append_op _ (by rfl) _ _ rfl w.heap.size v3 (p.take j) svs k n v wt l sv w2 (by rfl) (by rfl) w2.heap.size (by rfl) (by rfl) HM2.out HCR.out HQ.out hlen K2.size ?_; intro g5 c5 w5 R5 t5 hg5; have K5 := t5.kept K2 HOWN.out)
      go_roundg g3'
      case rel =>
        refine ⟨j + 1, _, rfl, by go_num, by omega, ?_, K5⟩
        rw [HTK.out]
        rw [List.length_take] at R5
        exact ⟨_, R5⟩
      case measure => omega
    · have b1 : ¬ (j : Int) < (p.length : Int) := by omega
      go_wp2_with fail
      go_ret
      refine ⟨_, rfl, ?_, K⟩
      have h := HM.out
      rw [List.take_of_length_le (by omega)] at h
      exact h

end Go.Proofs.YtolljdomnohmdaaGreatDoor
namespace Go.Proofs.YtolljdomnohmdaaGreatDoor
open Go.RowKit

/-- A row of ops that the call owns, each with cases of its own. -/
structure QRow (B : Nat) (w : World) (v : Value) (p : List OpD) (svs : List Value) : Prop where
  len : svs.length = p.length
  row : w.ownsRow B 77 5 v p.length (flatO p svs)
  cs : ∀ (j : Nat) (o : OpD) (sv : Value), p[j]? = some o → svs[j]? = some sv → CRow 106 B w sv o.cases ∧ ∀ q, sv.ownBlock = some q → v.ownBlock ≠ some q
theorem QRow.nil (B : Nat) (w : World) : QRow B w (.slice none 0 0) [] [] := ⟨rfl, World.ownsRow_nil _ _ _ _, fun j o sv h _ => by simp at h⟩
theorem QRow.kept {B : Nat} {w w' : World} {v : Value} {p : List OpD} {svs : List Value} (h : QRow B w v p svs) (t : Kept w w') : QRow B w' v p svs := ⟨h.len, own_kept h.row t, fun j o sv h1 h2 => ⟨(h.cs j o sv h1 h2).1.kept t, (h.cs j o sv h1 h2).2⟩⟩
theorem QRow.base {B B' : Nat} {w : World} {v : Value} {p : List OpD} {svs : List Value} (h : QRow B w v p svs) (hB : B' ≤ B) : QRow B' w v p svs := by
  have lift : ∀ {e : TypeId} {size : Nat} {v : Value} {n : Nat} {xs : List Value}, w.ownsRow B e size v n xs → w.ownsRow B' e size v n xs := by
    intro e size v n xs h
    refine ⟨h.1, ?_⟩
    rcases h.2 with hn | ⟨g, cap, cur, h1, hb, rest⟩
    · exact .inl hn
    · exact .inr ⟨g, cap, cur, h1, by omega, rest⟩
  exact ⟨h.len, lift h.row, fun j o sv h1 h2 => ⟨lift (h.cs j o sv h1 h2).1, (h.cs j o sv h1 h2).2⟩⟩
theorem QRow.view {B : Nat} {w : World} {v : Value} {p : List OpD} {svs : List Value} (h : QRow B w v p svs) : ∃ a c, v = .slice a p.length c ∧ p.length ≤ c ∧ (a = none → c = 0) ∧ AtP w a p := by
  rcases h.row.2 with ⟨h1, h2⟩ | ⟨g, cap, cur, h1, _, _, h3, _⟩
  · refine ⟨none, 0, by rw [h1, h2], by omega, fun _ => rfl, ?_⟩
    rw [List.eq_nil_of_length_eq_zero h2]
    exact AtP.nil _ _
  · refine ⟨some ⟨g, 0, none⟩, cap, h1, h3, (fun e => by cases e), ?_⟩
    intro j o hj
    refine ⟨g, 0, rfl, ?_⟩
    have hjl : j < svs.length := by rw [h.len]; exact (List.getElem?_eq_some_iff.1 hj).1
    have hsv : svs[j]? = some svs[j] := List.getElem?_eq_getElem hjl
    have hrow := h.row
    rw [h1] at hrow
    have hc : ∀ i, i < 5 → w.cell? ⟨g, 0 + j * 5 + i, none⟩ = (opV o svs[j])[i]? := by
      intro i hi
      have hjp := h.len
      rw [Nat.zero_add, hrow.cellAt (j * 5 + i) (by omega), flatO_get p svs j i o svs[j] hj hsv hi]
    obtain ⟨hcr, _⟩ := h.cs j o svs[j] hj hsv
    obtain ⟨ca, cc, e1, e2, e3⟩ := hcr.at
    have e4 : ca = none → cc = 0 := by
      intro e
      rcases hcr.2 with ⟨h1, _⟩ | ⟨g', cap', cur', h1, _⟩
      · exact (Value.slice.inj (e1.symm.trans h1)).2.2
      · have h5 := (Value.slice.inj (e1.symm.trans h1)).1
        rw [e] at h5
        cases h5
    refine ⟨hc 0 (by omega), hc 1 (by omega), hc 2 (by omega), hc 3 (by omega), ca, cc, ?_, e2, e4, e3⟩
    rw [hc 4 (by omega), ← e1]
    rfl
theorem infoQ : (Tryz.prog.info? 77).map (fun i => (i.zero, i.size, i.bytes)) = some (some (.agg #[.int .i64 0, .int .i64 0, .int .i64 0, .int .i64 0, .slice none 0 0]), 5, 56) := by kernel_rfl
/-- One op behind a row of ops. -/
theorem wpList_append_rop (w : World) {ops : Array Oper} {rest : List Oper} {o : Oper} {a : Act} {Q : Exit → Act → World → Prop} (hw : Region.wanted o (yielded ops a.tmps) = true) (s x : Operand)
    (ho : o.op = .call { callee := .builtin .append, args := #[s, x], argTypes := #[50, 50] })
    (B : Nat) (v1 : Value) (p : List OpD) (svs : List Value) (k n v wt : Int) (l : List CaseD) (sv : Value) (W : World) (hw1 : w = W.alloc (.cells #[.int .i64 k, .int .i64 n, .int .i64 v, .int .i64 wt, sv] 77)) (hs : a.eval s = v1) (nb : Nat) (hnb : nb = W.heap.size) (hx : a.eval x = .slice (some ⟨nb, 0, none⟩) 1 1)
    (h1 : QRow B W v1 p svs) (hc : CRow 106 B W sv l) (hq : ∀ q, sv.ownBlock = some q → v1.ownBlock ≠ some q) (hl : p.length ≤ 1000000) (hB : B ≤ W.heap.size)
    (h : ∀ g cap w', QRow B w' (.slice (some ⟨g, 0, none⟩) (p.length + 1) cap) (p ++ [⟨k, n, v, wt, l⟩]) (svs ++ [sv]) → Turns (fun k => v1.ownBlock = some k) W w' → (v1.ownBlock = some g ∨ W.heap.size < g) → wpList Tryz.prog ops Q rest (a.put o.dst (.slice (some ⟨g, 0, none⟩) (p.length + 1) cap)) w') :
    wpList Tryz.prog ops Q (o :: rest) a w := by
  subst hw1
  subst hnb
  refine wpList_step fun K hK => ?_
  rw [if_pos hw]
  obtain ⟨i, hi, hz0, hz1, hz2⟩ := info_parts infoQ
  obtain ⟨sa, sc, hsv, _, _⟩ := hc.at
  have hone : sv.oneCell' = true := by rw [hsv]; rfl
  have hcc : ∀ j u, (flatO [⟨k, n, v, wt, l⟩] [sv])[j]? = some u → (W.alloc (.cells #[.int .i64 k, .int .i64 n, .int .i64 v, .int .i64 wt, sv] 77)).cell? (Addr.add ⟨W.heap.size, 0, none⟩ j) = some u := by
    intro j u hu
    rw [Addr.add_lit, Nat.zero_add, World.cell?_alloc_at _ _ _ _ rfl]
    simpa [flatO, opV] using hu
  have h1' : (W.alloc (.cells #[.int .i64 k, .int .i64 n, .int .i64 v, .int .i64 wt, sv] 77)).ownsRow B 77 5 v1 p.length (flatO p svs) := World.ownsRow.alloc h1.row _
  have hB' := le_alloc (.cells #[.int .i64 k, .int .i64 n, .int .i64 v, .int .i64 wt, sv] 77) hB
  obtain ⟨v', w', hr, k1, k2, k3, k4⟩ := run_append_own_at (P := Tryz.prog) (W.alloc (.cells #[.int .i64 k, .int .i64 n, .int .i64 v, .int .i64 wt, sv] 77)) B 50 o.type 77 i _ 5 56 Tryz.underlying50 hi hz0 hz1 hz2 rfl (by omega) _ p.length (flatO p svs) h1' ⟨W.heap.size, 0, none⟩ 1 1 (flatO [⟨k, n, v, wt, l⟩] [sv]) (by simp [flatO, opV]) hcc (flatO_one _ _ (fun s hs => by simp at hs; subst hs; exact hone)) (by unfold maxLen; omega) (by omega) hB'
  obtain ⟨g, cap, rfl⟩ := own_form k1 (fun e => by have := k3.1 e; have := this.2; omega)
  have t : Turns (fun k => v1.ownBlock = some k) W w' := ((Turns.refl _ W).alloc _).trans (Turns.grown k2 (fun k e => e))
  have hg : v1.ownBlock = some g ∨ W.heap.size < g := by
    rcases k4 with k4 | k4
    · exact .inl k4.symm
    · right; simp [Value.ownBlock] at k4; omega
  have far : ∀ (s : Value) (c : List CaseD), CRow 106 B W s c → (∀ q, s.ownBlock = some q → v1.ownBlock ≠ some q) → CRow 106 B w' s c ∧ ∀ q, s.ownBlock = some q → (Value.slice (some ⟨g, 0, none⟩) (p.length + 1) cap).ownBlock ≠ some q := by
    intro s c h2 h3
    refine ⟨h2.turns t (fun q hq e => h3 q hq e), fun q hq e => ?_⟩
    simp [Value.ownBlock] at e
    subst e
    have hlt := (World.ownsRow.lt h2 g hq).2
    rcases hg with h4 | h4
    · exact h3 g hq h4
    · omega
  unfold Oper.wp
  simp [execOp, ho, resolve, invoke, builtin, hs, hx, hr, Result.andThen]
  refine hK _ _ (h g cap w' ⟨by simp [h1.len], ?_, ?_⟩ t hg)
  · rw [flatO_append p svs _ _ h1.len, List.length_append]
    simpa [flatO] using k1
  · intro j o' s' hj hs'
    by_cases hjp : j < p.length
    · rw [List.getElem?_append_left hjp] at hj
      rw [List.getElem?_append_left (by rw [h1.len]; exact hjp)] at hs'
      obtain ⟨c1, c2⟩ := h1.cs j o' s' hj hs'
      exact far s' _ c1 c2
    · have hj2 : j = p.length := by
        have := (List.getElem?_eq_some_iff.1 hj).1
        simp at this
        omega
      subst hj2
      rw [List.getElem?_append_right (by omega)] at hj
      rw [List.getElem?_append_right (by rw [h1.len]; omega), h1.len] at hs'
      simp at hj hs'
      subst hj hs'
      exact far _ _ hc hq
theorem QRow.lt {B : Nat} {w : World} {v : Value} {p : List OpD} {svs : List Value} (h : QRow B w v p svs) : ∀ k, v.ownBlock = some k → B ≤ k ∧ k < w.heap.size := fun k hk => World.ownsRow.lt h.row k hk
set_option maxHeartbeats 4000000 in
theorem ofAll_any (a : Option Addr) (c : Nat) (p : List OpD) (w : World) (hA : AtP w a p) (hp : p.length ≤ 100000) (hc : ∀ o ∈ p, o.cases.length ≤ 1000000) :
    Calls Tryz.prog 31 #[.slice a p.length c] w fun e w' => ∃ v, e = .returned v ∧ (∃ svs, QRow w.heap.size w' v p svs) ∧ Kept w w' := by
  have HA : Hid (AtP w a p) := hA
  have HC : Hid (∀ o ∈ p, o.cases.length ≤ 1000000) := hc
  clear hA hc
  have M0 : ∀ w', Hid (∃ svs, QRow w.heap.size w' (.slice none 0 0) (p.take 0) svs) := fun w' => ⟨[], QRow.nil _ _⟩
  go_enter Tryz.func31, Tryz.ntmps31
  go_wp2_with fail
  go_loopg [3, 4] p.length (fun gk x3 i wr => ∃ (j : Nat) (v : Value), v = x3 ∧ i = .int .i64 j ∧ j + gk = p.length ∧ Hid (∃ svs, QRow w.heap.size wr v (p.take j) svs) ∧ Kept w wr)
  case atStart => exact ⟨0, _, rfl, rfl, by omega, M0 w, Kept.refl w⟩
  case round =>
    obtain ⟨j, v3, hx3, rfl, hj, HM, K⟩ := hrel
    subst hx3
    by_cases hjp : j < p.length
    · obtain ⟨b, f, k, n, v, wt, l, ca, cc, rfl, hpj, g0, g1, g2, g3, g4, hcc, hat, hbl, hdr⟩ := (HA.out.kept K).get j hjp
      have b1 : (j : Int) < (p.length : Int) := by omega
      have b2 : (0 : Int) ≤ (j : Int) := by omega
      have hll : l.length ≤ 1000000 := HC.out _ (List.mem_of_getElem? hpj)
      have hto := of_any k n v wt ca l.length cc l wr hat hll
      have HTK : Hid (p.take (j + 1) = p.take j ++ [⟨k, n, v, wt, l⟩]) := by show _ = _; rw [List.take_add_one, hpj]; rfl
      obtain ⟨g3', rfl⟩ : ∃ g, gk = g + 1 := ⟨gk - 1, by omega⟩
      clear hpj hat hdr
      go_wp2_with fail
      refine hto.mono ?_
      rintro e w2 ⟨sv, rfl, hcr, t2⟩
      obtain ⟨svs, hM⟩ := HM.out
      have HM2 : Hid (QRow w.heap.size w2 v3 (p.take j) svs) := hM.kept t2
      have HCR : Hid (CRow 106 w.heap.size w2 sv l) := hcr.base K.size
      have HQ : Hid (∀ q, sv.ownBlock = some q → v3.ownBlock ≠ some q) := fun q hq e2 => by
        have h1 := (World.ownsRow.lt hcr q hq).1
        have h2 := (hM.lt q e2).2
        omega
      have HOWN : Hid (∀ i, v3.ownBlock = some i → w.heap.size ≤ i) := fun i hi => (hM.lt i hi).1
      have K2 := K.trans t2
      have hlen : (p.take j).length ≤ 1000000 := by rw [List.length_take]; omega
      clear hM hcr hto
      go_wp2_with (at_builtin; refine wpList_append_rop _ (by rfl) _ _ rfl w.heap.size v3 (p.take j) svs k n v wt l sv w2 (by rfl) (by rfl) w2.heap.size (by rfl) (by rfl) HM2.out HCR.out HQ.out hlen K2.size ?_; intro g5 c5 w5 R5 t5 hg5; have K5 := t5.kept K2 HOWN.out)
      go_roundg g3'
      case rel =>
        refine ⟨j + 1, _, rfl, by go_num, by omega, ?_, K5⟩
        rw [HTK.out]
        rw [List.length_take] at R5
        exact ⟨_, R5⟩
      case measure => omega
    · have b1 : ¬ (j : Int) < (p.length : Int) := by omega
      go_wp2_with fail
      go_ret
      refine ⟨_, rfl, ?_, K⟩
      have h := HM.out
      rw [List.take_of_length_le (by omega)] at h
      exact h

end Go.Proofs.YtolljdomnohmdaaGreatDoor
namespace Go.Proofs.YtolljdomnohmdaaGreatDoor
open Go.ChangeShapes Go.WideShapes Go.ChangeAt Go.RowKit Go.Deep

theorem o60 : Tryz.prog.cellsOf 52 = 5 := by kernel_rfl
theorem o63 : Tryz.prog.cellsOf 72 = 2 := by kernel_rfl
theorem o25 : Tryz.prog.cellsOf 25 = 3 := by kernel_rfl
theorem o23 : Tryz.prog.cellsOf 23 = 1 := by kernel_rfl
theorem o22c : Tryz.prog.cellsOf 22 = 1 := by kernel_rfl
theorem o9 : Tryz.prog.cellsOf 9 = 1 := by kernel_rfl
theorem o58 : Tryz.prog.cellsOf 50 = 1 := by kernel_rfl
set_option maxRecDepth 100000 in
theorem opsC_open {H : Type} {enc : TypeId × Value → H} {w : World} {base fuel : Nat} {held : Bool} {cs : List Value} {x : DataW H × List MemPlace} (h : DataW.trod enc Tryz.prog w base (fun _ => true) held fuel 50 cs = some x) :
    ∃ (a : Option Addr) (Z : List OpD) (c : Nat), cs = [.slice a Z.length c] ∧ AtP w a Z ∧ Z.length ≤ c := by
  rcases open_slice Tryz.underlying50 h with ⟨hcs, _⟩ | ⟨y, n, c, m, k, D, Pl, hcs, _, hl, _, hm, _, hx⟩
  · exact ⟨none, [], 0, hcs, AtP.nil _ _, Nat.le_refl _⟩
  · simp at hm
    subst hm
    rw [o24] at hx
    have hc : ∀ i, i < n → ∃ o : OpD, (∃ b f, y = ⟨b, f, none⟩ ∧ OpAt w b (f + i * 5) o) := by
      intro i hi
      obtain ⟨cs', h1, h2⟩ := hx i (by omega)
      obtain ⟨o, ca, cc, rfl, hat, hcc, hnn, h64⟩ := opcells_open h2
      obtain ⟨_, _, hc⟩ := World.cells?_some h1
      have c0 := hc 0 (by omega)
      have c1 := hc 1 (by omega)
      have c2 := hc 2 (by omega)
      have c3 := hc 3 (by omega)
      have c4 := hc 4 (by omega)
      rw [add_add] at c0 c1 c2 c3 c4
      have hsp : y.spot = none := by
        obtain ⟨cz, z1, z2⟩ := hx 0 (by omega)
        obtain ⟨oz, _, _, rfl, _⟩ := opcells_open z2
        obtain ⟨_, _, hcz⟩ := World.cells?_some z1
        have cz0 := hcz 0 (by omega)
        rw [add_add] at cz0
        have := World.cell?_spot (v := .int .i64 oz.kind) (by simpa using cz0)
        simpa [Addr.add] using this
      obtain ⟨b, f, sp⟩ := y
      simp only at hsp
      subst hsp
      refine ⟨o, b, f, rfl, ?_, ?_, ?_, ?_, ca, cc, ?_, hcc, hnn, hat⟩
      · rw [add_plain] at c0; simpa using c0
      · rw [add_plain] at c1; simpa [Nat.add_assoc] using c1
      · rw [add_plain] at c2; simpa [Nat.add_assoc] using c2
      · rw [add_plain] at c3; simpa [Nat.add_assoc] using c3
      · rw [add_plain] at c4; simpa [Nat.add_assoc] using c4
    haveI : Inhabited OpD := ⟨⟨0, 0, 0, 0, []⟩⟩
    obtain ⟨g, hg⟩ : ∃ g : Nat → OpD, ∀ i, i < n → (∃ b f, y = ⟨b, f, none⟩ ∧ OpAt w b (f + i * 5) (g i)) := choose_lt hc
    have hlen : ((List.range n).map g).length = n := by simp
    refine ⟨some y, (List.range n).map g, _, by rw [hlen]; exact hcs, ?_, by rw [hlen]; omega⟩
    intro j o hj
    have hjn : j < n := by have := (List.getElem?_eq_some_iff.1 hj).1; rw [hlen] at this; exact this
    obtain ⟨b, f, rfl, ho⟩ := hg j hjn
    have : o = g j := by simp [hjn] at hj; exact hj.symm
    rw [this]
    exact ⟨b, f, rfl, ho⟩
set_option maxRecDepth 100000 in
theorem hcells_open {H : Type} {enc : TypeId × Value → H} {w : World} {base fuel : Nat} {held : Bool} {cs : List Value} {x : DataW H × List MemPlace} (h : DataW.trod enc Tryz.prog w base (fun _ => true) held fuel 72 cs = some x) :
    ∃ o : ChanD, cs = [.int .i64 o.room, .int .i64 o.server] := by
  obtain ⟨xs, n, _, _, hl, hxl, hf⟩ := DataW.trod_struct Tryz.underlying72 h
  rw [o63] at hl
  match cs, hl, xs, hxl with
  | [v0, v1], _, [y0, y1], _ =>
    have g0 := hf 0 _ rfl
    have g1 := hf 1 _ rfl
    simp [o3] at g0 g1
    obtain ⟨n0, e0, _, _⟩ := DataW.trod_int Tryz.underlying3 g0
    obtain ⟨n1, e1, _, _⟩ := DataW.trod_int Tryz.underlying3 g1
    simp at e0 e1
    exact ⟨⟨n0, n1⟩, by rw [e0, e1]⟩
set_option maxRecDepth 100000 in
theorem tcells_open {H : Type} {enc : TypeId × Value → H} {w : World} {base fuel : Nat} {held : Bool} {cs : List Value} {x : DataW H × List MemPlace} (h : DataW.trod enc Tryz.prog w base (fun _ => true) held fuel 52 cs = some x) :
    ∃ (t : TaskD) (pa : Option Addr) (pc : Nat), cs = [.string (B t.name), .int .i64 t.period, .int .i64 t.deadline, .int .i64 t.budget, .slice pa t.prog.length pc] ∧ AtP w pa t.prog ∧ t.prog.length ≤ pc := by
  obtain ⟨xs, n, _, _, hl, hxl, hf⟩ := DataW.trod_struct Tryz.underlying52 h
  rw [o60] at hl
  match cs, hl, xs, hxl with
  | [v0, v1, v2, v3, v4], _, [y0, y1, y2, y3, y4], _ =>
    have g0 := hf 0 _ rfl
    have g1 := hf 1 _ rfl
    have g2 := hf 2 _ rfl
    have g3 := hf 3 _ rfl
    have g4 := hf 4 _ rfl
    simp [o9, o2, o58] at g0 g1 g2 g3 g4
    obtain ⟨s0, e0, _⟩ := DataW.trod_string Tryz.underlying9 g0
    obtain ⟨n1, e1, _, _⟩ := DataW.trod_int Tryz.underlying2 g1
    obtain ⟨n2, e2, _, _⟩ := DataW.trod_int Tryz.underlying2 g2
    obtain ⟨n3, e3, _, _⟩ := DataW.trod_int Tryz.underlying2 g3
    obtain ⟨pa, Z, pc, e4, hat, hpc⟩ := opsC_open g4
    simp at e0 e1 e2 e3 e4
    subst e0 e1 e2 e3 e4
    exact ⟨⟨s0.data.toList, n1, n2, n3, Z⟩, pa, pc, by rw [B_of], hat, hpc⟩
set_option maxRecDepth 100000 in
theorem tasks_open {H : Type} {enc : TypeId × Value → H} {w : World} {base fuel : Nat} {held : Bool} {cs : List Value} {x : DataW H × List MemPlace} (h : DataW.trod enc Tryz.prog w base (fun _ => true) held fuel 23 cs = some x) :
    ∃ (a : Option Addr) (Z : List TaskD) (c : Nat), cs = [.slice a Z.length c] ∧ AtT w a Z := by
  rcases open_slice Tryz.underlying23 h with ⟨hcs, _⟩ | ⟨y, n, c, m, k, D, Pl, hcs, _, hl, _, hm, _, hx⟩
  · exact ⟨none, [], 0, hcs, AtT.nil _ _⟩
  · simp at hm
    subst hm
    rw [o60] at hx
    have hc : ∀ i, i < n → ∃ o : TaskD, (∃ b f, y = ⟨b, f, none⟩ ∧ TkAt w b (f + i * 5) o) := by
      intro i hi
      obtain ⟨cs', h1, h2⟩ := hx i (by omega)
      obtain ⟨o, pa, pc, rfl, hat, hpc⟩ := tcells_open h2
      obtain ⟨_, _, hc⟩ := World.cells?_some h1
      have c0 := hc 0 (by omega)
      have c1 := hc 1 (by omega)
      have c2 := hc 2 (by omega)
      have c3 := hc 3 (by omega)
      have c4 := hc 4 (by omega)
      rw [add_add] at c0 c1 c2 c3 c4
      have hsp : y.spot = none := by
        obtain ⟨cz, z1, z2⟩ := hx 0 (by omega)
        obtain ⟨oz, pa, pc, rfl, hat, hpc⟩ := tcells_open z2
        obtain ⟨_, _, hcz⟩ := World.cells?_some z1
        have cz0 := hcz 0 (by omega)
        rw [add_add] at cz0
        have := World.cell?_spot (v := .string (B oz.name)) (by simpa using cz0)
        simpa [Addr.add] using this
      obtain ⟨b, f, sp⟩ := y
      simp only at hsp
      subst hsp
      refine ⟨o, b, f, rfl, ?_, ?_, ?_, ?_, pa, pc, ?_, hpc, hat⟩
      · rw [add_plain] at c0; simpa using c0
      · rw [add_plain] at c1; simpa [Nat.add_assoc] using c1
      · rw [add_plain] at c2; simpa [Nat.add_assoc] using c2
      · rw [add_plain] at c3; simpa [Nat.add_assoc] using c3
      · rw [add_plain] at c4; simpa [Nat.add_assoc] using c4
    haveI : Inhabited TaskD := ⟨⟨[], 0, 0, 0, []⟩⟩
    obtain ⟨g, hg⟩ : ∃ g : Nat → TaskD, ∀ i, i < n → (∃ b f, y = ⟨b, f, none⟩ ∧ TkAt w b (f + i * 5) (g i)) := choose_lt hc
    have hlen : ((List.range n).map g).length = n := by simp
    refine ⟨some y, (List.range n).map g, _, by rw [hlen]; exact hcs, ?_⟩
    intro j o hj
    have hjn : j < n := by have := (List.getElem?_eq_some_iff.1 hj).1; rw [hlen] at this; exact this
    obtain ⟨b, f, rfl, ho⟩ := hg j hjn
    have : o = g j := by simp [hjn] at hj; exact hj.symm
    rw [this]
    exact ⟨b, f, rfl, ho⟩
set_option maxRecDepth 100000 in
theorem chans_open {H : Type} {enc : TypeId × Value → H} {w : World} {base fuel : Nat} {held : Bool} {cs : List Value} {x : DataW H × List MemPlace} (h : DataW.trod enc Tryz.prog w base (fun _ => true) held fuel 22 cs = some x) :
    ∃ (a : Option Addr) (Z : List ChanD) (c : Nat), cs = [.slice a Z.length c] ∧ AtH w a Z := by
  rcases open_slice Tryz.underlying22 h with ⟨hcs, _⟩ | ⟨y, n, c, m, k, D, Pl, hcs, _, hl, _, hm, _, hx⟩
  · exact ⟨none, [], 0, hcs, AtH.nil _ _⟩
  · simp at hm
    subst hm
    rw [o63] at hx
    have hc : ∀ i, i < n → ∃ o : ChanD, (∃ b f, y = ⟨b, f, none⟩ ∧ w.cell? ⟨b, f + i * 2, none⟩ = some (.int .i64 o.room) ∧ w.cell? ⟨b, f + i * 2 + 1, none⟩ = some (.int .i64 o.server)) := by
      intro i hi
      obtain ⟨cs', h1, h2⟩ := hx i (by omega)
      obtain ⟨o, rfl⟩ := hcells_open h2
      obtain ⟨_, _, hc⟩ := World.cells?_some h1
      have c0 := hc 0 (by omega)
      have c1 := hc 1 (by omega)
      rw [add_add] at c0 c1
      have hsp : y.spot = none := by
        obtain ⟨cz, z1, z2⟩ := hx 0 (by omega)
        obtain ⟨oz, rfl⟩ := hcells_open z2
        obtain ⟨_, _, hcz⟩ := World.cells?_some z1
        have cz0 := hcz 0 (by omega)
        rw [add_add] at cz0
        have := World.cell?_spot (v := .int .i64 oz.room) (by simpa using cz0)
        simpa [Addr.add] using this
      obtain ⟨b, f, sp⟩ := y
      simp only at hsp
      subst hsp
      refine ⟨o, b, f, rfl, ?_, ?_⟩
      · rw [add_plain] at c0; simpa using c0
      · rw [add_plain] at c1; simpa [Nat.add_assoc] using c1
    haveI : Inhabited ChanD := ⟨⟨0, 0⟩⟩
    obtain ⟨g, hg⟩ : ∃ g : Nat → ChanD, ∀ i, i < n → (∃ b f, y = ⟨b, f, none⟩ ∧ w.cell? ⟨b, f + i * 2, none⟩ = some (.int .i64 (g i).room) ∧ w.cell? ⟨b, f + i * 2 + 1, none⟩ = some (.int .i64 (g i).server)) := choose_lt hc
    have hlen : ((List.range n).map g).length = n := by simp
    refine ⟨some y, (List.range n).map g, _, by rw [hlen]; exact hcs, ?_⟩
    intro j o hj
    have hjn : j < n := by have := (List.getElem?_eq_some_iff.1 hj).1; rw [hlen] at this; exact this
    obtain ⟨b, f, rfl, ho⟩ := hg j hjn
    have : o = g j := by simp [hjn] at hj; exact hj.symm
    rw [this]
    exact ⟨b, f, rfl, ho⟩
set_option maxRecDepth 100000 in
theorem set_open {H : Type} {enc : TypeId × Value → H} {w : World} {base b0 : Nat} {r : Reach} {held : Bool} {v : Value} {x : DataW H × List MemPlace} (hok : Value.okWide Tryz.prog w r b0 25 v) (h : ∃ fuel, DataW.trod enc Tryz.prog w base (fun _ => true) held fuel 25 v.cells.toList = some x) :
    ∃ (L : Int) (ca : Option Addr) (cs : List ChanD) (cc : Nat) (ta : Option Addr) (ts : List TaskD) (tc : Nat), v = .agg #[.int .i64 L, .slice ca cs.length cc, .slice ta ts.length tc] ∧ AtH w ca cs ∧ AtT w ta ts := by
  obtain ⟨cs, rfl, _⟩ := okWide_struct Tryz.underlying25 hok
  obtain ⟨fuel, h⟩ := h
  obtain ⟨l⟩ := cs
  simp [Value.cells] at h
  obtain ⟨xs, n, _, _, hl, hxl, hf⟩ := DataW.trod_struct Tryz.underlying25 h
  rw [o25] at hl
  match l, hl, xs, hxl with
  | [v0, v1, v2], _, [y0, y1, y2], _ =>
    have g0 := hf 0 _ rfl
    have g1 := hf 1 _ rfl
    have g2 := hf 2 _ rfl
    simp [o22c, o23, o3] at g0 g1 g2
    obtain ⟨n0, e0, _, _⟩ := DataW.trod_int Tryz.underlying3 g0
    obtain ⟨ca, hs, cc, e1, hH⟩ := chans_open g1
    obtain ⟨ta, tts, tc, e2, hT⟩ := tasks_open g2
    simp at e0 e1 e2
    subst e0 e1 e2
    exact ⟨n0, ca, hs, cc, ta, tts, tc, rfl, hH, hT⟩
end Go.Proofs.YtolljdomnohmdaaGreatDoor
namespace Go.Proofs.YtolljdomnohmdaaGreatDoor
open Go.ChangeShapes Go.WideShapes Go.ChangeAt Go.RowKit Go.Deep

namespace SpI
set_option maxRecDepth 100000 in
theorem opsC_open {H : Type} {enc : TypeId × Value → H} {w : World} {base fuel : Nat} {held : Bool} {cs : List Value} {x : DataW H × List MemPlace} (h : DataW.trod enc Tryz.prog w base (fun _ => true) held fuel 50 cs = some x) :
    ∃ (a : Option Addr) (Z : List OpD) (c : Nat), cs = [.slice a Z.length c] ∧ AtP w a Z ∧ Z.length ≤ c ∧ ∀ o ∈ Z, In64 o := by
  rcases open_slice Tryz.underlying50 h with ⟨hcs, _⟩ | ⟨y, n, c, m, k, D, Pl, hcs, _, hl, _, hm, _, hx⟩
  · exact ⟨none, [], 0, hcs, AtP.nil _ _, Nat.le_refl _, fun o ho => by cases ho⟩
  · simp at hm
    subst hm
    rw [o24] at hx
    have hc : ∀ i, i < n → ∃ o : OpD, (∃ b f, y = ⟨b, f, none⟩ ∧ OpAt w b (f + i * 5) o ∧ In64 o) := by
      intro i hi
      obtain ⟨cs', h1, h2⟩ := hx i (by omega)
      obtain ⟨o, ca, cc, rfl, hat, hcc, hnn, h64⟩ := opcells_open h2
      obtain ⟨_, _, hc⟩ := World.cells?_some h1
      have c0 := hc 0 (by omega)
      have c1 := hc 1 (by omega)
      have c2 := hc 2 (by omega)
      have c3 := hc 3 (by omega)
      have c4 := hc 4 (by omega)
      rw [add_add] at c0 c1 c2 c3 c4
      have hsp : y.spot = none := by
        obtain ⟨cz, z1, z2⟩ := hx 0 (by omega)
        obtain ⟨oz, _, _, rfl, _⟩ := opcells_open z2
        obtain ⟨_, _, hcz⟩ := World.cells?_some z1
        have cz0 := hcz 0 (by omega)
        rw [add_add] at cz0
        have := World.cell?_spot (v := .int .i64 oz.kind) (by simpa using cz0)
        simpa [Addr.add] using this
      obtain ⟨b, f, sp⟩ := y
      simp only at hsp
      subst hsp
      refine ⟨o, b, f, rfl, ⟨?_, ?_, ?_, ?_, ca, cc, ?_, hcc, hnn, hat⟩, h64⟩
      · rw [add_plain] at c0; simpa using c0
      · rw [add_plain] at c1; simpa [Nat.add_assoc] using c1
      · rw [add_plain] at c2; simpa [Nat.add_assoc] using c2
      · rw [add_plain] at c3; simpa [Nat.add_assoc] using c3
      · rw [add_plain] at c4; simpa [Nat.add_assoc] using c4
    haveI : Inhabited OpD := ⟨⟨0, 0, 0, 0, []⟩⟩
    obtain ⟨g, hg⟩ : ∃ g : Nat → OpD, ∀ i, i < n → (∃ b f, y = ⟨b, f, none⟩ ∧ OpAt w b (f + i * 5) (g i) ∧ In64 (g i)) := choose_lt hc
    have hlen : ((List.range n).map g).length = n := by simp
    refine ⟨some y, (List.range n).map g, _, by rw [hlen]; exact hcs, ?_, by rw [hlen]; omega, fun o ho => by
      obtain ⟨i, hi, rfl⟩ := List.mem_map.1 ho
      obtain ⟨_, _, _, _, h⟩ := hg i (List.mem_range.1 hi)
      exact h⟩
    intro j o hj
    have hjn : j < n := by have := (List.getElem?_eq_some_iff.1 hj).1; rw [hlen] at this; exact this
    obtain ⟨b, f, rfl, ho, _⟩ := hg j hjn
    have : o = g j := by simp [hjn] at hj; exact hj.symm
    rw [this]
    exact ⟨b, f, rfl, ho⟩
set_option maxRecDepth 100000 in
theorem tcells_open {H : Type} {enc : TypeId × Value → H} {w : World} {base fuel : Nat} {held : Bool} {cs : List Value} {x : DataW H × List MemPlace} (h : DataW.trod enc Tryz.prog w base (fun _ => true) held fuel 52 cs = some x) :
    ∃ (t : TaskD) (pa : Option Addr) (pc : Nat), cs = [.string (B t.name), .int .i64 t.period, .int .i64 t.deadline, .int .i64 t.budget, .slice pa t.prog.length pc] ∧ AtP w pa t.prog ∧ t.prog.length ≤ pc ∧ ∀ o ∈ t.prog, In64 o := by
  obtain ⟨xs, n, _, _, hl, hxl, hf⟩ := DataW.trod_struct Tryz.underlying52 h
  rw [o60] at hl
  match cs, hl, xs, hxl with
  | [v0, v1, v2, v3, v4], _, [y0, y1, y2, y3, y4], _ =>
    have g0 := hf 0 _ rfl
    have g1 := hf 1 _ rfl
    have g2 := hf 2 _ rfl
    have g3 := hf 3 _ rfl
    have g4 := hf 4 _ rfl
    simp [o9, o2, o58] at g0 g1 g2 g3 g4
    obtain ⟨s0, e0, _⟩ := DataW.trod_string Tryz.underlying9 g0
    obtain ⟨n1, e1, _, _⟩ := DataW.trod_int Tryz.underlying2 g1
    obtain ⟨n2, e2, _, _⟩ := DataW.trod_int Tryz.underlying2 g2
    obtain ⟨n3, e3, _, _⟩ := DataW.trod_int Tryz.underlying2 g3
    obtain ⟨pa, Z, pc, e4, hat, hpc, h64⟩ := opsC_open g4
    simp at e0 e1 e2 e3 e4
    subst e0 e1 e2 e3 e4
    exact ⟨⟨s0.data.toList, n1, n2, n3, Z⟩, pa, pc, by rw [B_of], hat, hpc, h64⟩
set_option maxRecDepth 100000 in
theorem tasks_open {H : Type} {enc : TypeId × Value → H} {w : World} {base fuel : Nat} {held : Bool} {cs : List Value} {x : DataW H × List MemPlace} (h : DataW.trod enc Tryz.prog w base (fun _ => true) held fuel 23 cs = some x) :
    ∃ (a : Option Addr) (Z : List TaskD) (c : Nat), cs = [.slice a Z.length c] ∧ AtT w a Z ∧ ∀ t ∈ Z, ∀ o ∈ t.prog, In64 o := by
  rcases open_slice Tryz.underlying23 h with ⟨hcs, _⟩ | ⟨y, n, c, m, k, D, Pl, hcs, _, hl, _, hm, _, hx⟩
  · exact ⟨none, [], 0, hcs, AtT.nil _ _, fun t ht => by cases ht⟩
  · simp at hm
    subst hm
    rw [o60] at hx
    have hc : ∀ i, i < n → ∃ o : TaskD, (∃ b f, y = ⟨b, f, none⟩ ∧ TkAt w b (f + i * 5) o ∧ ∀ z ∈ o.prog, In64 z) := by
      intro i hi
      obtain ⟨cs', h1, h2⟩ := hx i (by omega)
      obtain ⟨o, pa, pc, rfl, hat, hpc, h64⟩ := tcells_open h2
      obtain ⟨_, _, hc⟩ := World.cells?_some h1
      have c0 := hc 0 (by omega)
      have c1 := hc 1 (by omega)
      have c2 := hc 2 (by omega)
      have c3 := hc 3 (by omega)
      have c4 := hc 4 (by omega)
      rw [add_add] at c0 c1 c2 c3 c4
      have hsp : y.spot = none := by
        obtain ⟨cz, z1, z2⟩ := hx 0 (by omega)
        obtain ⟨oz, pa, pc, rfl, hat, hpc, _⟩ := tcells_open z2
        obtain ⟨_, _, hcz⟩ := World.cells?_some z1
        have cz0 := hcz 0 (by omega)
        rw [add_add] at cz0
        have := World.cell?_spot (v := .string (B oz.name)) (by simpa using cz0)
        simpa [Addr.add] using this
      obtain ⟨b, f, sp⟩ := y
      simp only at hsp
      subst hsp
      refine ⟨o, b, f, rfl, ⟨?_, ?_, ?_, ?_, pa, pc, ?_, hpc, hat⟩, h64⟩
      · rw [add_plain] at c0; simpa using c0
      · rw [add_plain] at c1; simpa [Nat.add_assoc] using c1
      · rw [add_plain] at c2; simpa [Nat.add_assoc] using c2
      · rw [add_plain] at c3; simpa [Nat.add_assoc] using c3
      · rw [add_plain] at c4; simpa [Nat.add_assoc] using c4
    haveI : Inhabited TaskD := ⟨⟨[], 0, 0, 0, []⟩⟩
    obtain ⟨g, hg⟩ : ∃ g : Nat → TaskD, ∀ i, i < n → (∃ b f, y = ⟨b, f, none⟩ ∧ TkAt w b (f + i * 5) (g i) ∧ ∀ z ∈ (g i).prog, In64 z) := choose_lt hc
    have hlen : ((List.range n).map g).length = n := by simp
    refine ⟨some y, (List.range n).map g, _, by rw [hlen]; exact hcs, ?_, fun t ht => by
      obtain ⟨i, hi, rfl⟩ := List.mem_map.1 ht
      obtain ⟨_, _, _, _, h⟩ := hg i (List.mem_range.1 hi)
      exact h⟩
    intro j o hj
    have hjn : j < n := by have := (List.getElem?_eq_some_iff.1 hj).1; rw [hlen] at this; exact this
    obtain ⟨b, f, rfl, ho, _⟩ := hg j hjn
    have : o = g j := by simp [hjn] at hj; exact hj.symm
    rw [this]
    exact ⟨b, f, rfl, ho⟩
set_option maxRecDepth 100000 in
theorem set_open {H : Type} {enc : TypeId × Value → H} {w : World} {base b0 : Nat} {r : Reach} {held : Bool} {v : Value} {x : DataW H × List MemPlace} (hok : Value.okWide Tryz.prog w r b0 25 v) (h : ∃ fuel, DataW.trod enc Tryz.prog w base (fun _ => true) held fuel 25 v.cells.toList = some x) :
    ∃ (L : Int) (ca : Option Addr) (cs : List ChanD) (cc : Nat) (ta : Option Addr) (ts : List TaskD) (tc : Nat), v = .agg #[.int .i64 L, .slice ca cs.length cc, .slice ta ts.length tc] ∧ AtH w ca cs ∧ AtT w ta ts ∧ ∀ t ∈ ts, ∀ o ∈ t.prog, In64 o := by
  obtain ⟨cs, rfl, _⟩ := okWide_struct Tryz.underlying25 hok
  obtain ⟨fuel, h⟩ := h
  obtain ⟨l⟩ := cs
  simp [Value.cells] at h
  obtain ⟨xs, n, _, _, hl, hxl, hf⟩ := DataW.trod_struct Tryz.underlying25 h
  rw [o25] at hl
  match l, hl, xs, hxl with
  | [v0, v1, v2], _, [y0, y1, y2], _ =>
    have g0 := hf 0 _ rfl
    have g1 := hf 1 _ rfl
    have g2 := hf 2 _ rfl
    simp [o22c, o23, o3] at g0 g1 g2
    obtain ⟨n0, e0, _, _⟩ := DataW.trod_int Tryz.underlying3 g0
    obtain ⟨ca, hs, cc, e1, hH⟩ := chans_open g1
    obtain ⟨ta, tts, tc, e2, hT, h64⟩ := tasks_open g2
    simp at e0 e1 e2
    subst e0 e1 e2
    exact ⟨n0, ca, hs, cc, ta, tts, tc, rfl, hH, hT, h64⟩
end SpI
end Go.Proofs.YtolljdomnohmdaaGreatDoor
