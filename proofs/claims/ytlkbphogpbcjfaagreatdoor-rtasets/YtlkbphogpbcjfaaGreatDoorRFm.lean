/- Rows of the reference's ops; how they grow. The reference's Flat. -/
import Derived.Test.YtlkbphogpbcjfaaGreatDoorRMt
import Derived.Test.YtlkbphogpbcjfaaGreatDoorApp2
namespace Go.Proofs.YtlkbphogpbcjfaaGreatDoor
open Go.RowKit

theorem infoR : (Tryz.prog.info? 83).map (fun i => (i.zero, i.size, i.bytes)) = some (some (.agg #[.int .i64 0, .int .i64 0, .int .i64 0, .int .i64 0, .slice none 0 0]), 5, 56) := by kernel_rfl
/-- Ops that lie somewhere behind a row of the call's own. -/
theorem wpList_append_rops (w : World) {ops : Array Oper} {rest : List Oper} {o : Oper} {a : Act} {Q : Exit → Act → World → Prop} (hw : Region.wanted o (yielded ops a.tmps) = true) (s x : Operand)
    (ho : o.op = .call { callee := .builtin .append, args := #[s, x], argTypes := #[41, 41] })
    (Bd : Nat) (v1 : Value) (n : Nat) (xs : List Value) (ys : List Value) (m c : Nat) (hy : ys.length = m * 5) (hone : ∀ u ∈ ys, u.oneCell' = true) (hs : a.eval s = v1) (nb : Nat) (hx : a.eval x = .slice (some ⟨nb, 0, none⟩) m c)
    (hcc : ∀ (j : Nat) (u : Value), ys[j]? = some u → w.cell? ⟨nb, j, none⟩ = some u)
    (h1 : w.ownsRow Bd 83 5 v1 n xs) (hl : n + m ≤ 1000000) (hB : Bd ≤ w.heap.size)
    (h : ∀ v' w', w'.ownsRow Bd 83 5 v' (n + m) (xs ++ ys) → Turns (fun k => v1.ownBlock = some k) w w' → (v'.ownBlock = v1.ownBlock ∨ ∀ q, v'.ownBlock = some q → w.heap.size ≤ q) → wpList Tryz.prog ops Q rest (a.put o.dst v') w') :
    wpList Tryz.prog ops Q (o :: rest) a w := by
  refine wpList_step fun K hK => ?_
  rw [if_pos hw]
  obtain ⟨i, hi, hz0, hz1, hz2⟩ := info_parts infoR
  have hcc' : ∀ j u, ys[j]? = some u → w.cell? (Addr.add ⟨nb, 0, none⟩ j) = some u := by
    intro j u hu
    rw [Addr.add_lit, Nat.zero_add]
    exact hcc j u hu
  obtain ⟨v', w', hr, k1, k2, k3, k4⟩ := run_append_own_at (P := Tryz.prog) w Bd 41 o.type 83 i _ 5 56 Tryz.underlying41 hi hz0 hz1 hz2 rfl (by omega) _ n xs h1 ⟨nb, 0, none⟩ m c ys hy hcc' hone (by unfold maxLen; omega) (by omega) hB
  have t : Turns (fun k => v1.ownBlock = some k) w w' := Turns.grown k2 (fun k e => e)
  unfold Oper.wp
  simp [execOp, ho, resolve, invoke, builtin, hs, hx, hr, Result.andThen]
  refine hK _ _ (h v' w' k1 t ?_)
  rcases k4 with k4 | k4
  · exact .inl k4
  · right
    intro q hq
    rw [k4] at hq
    simp at hq
    omega
theorem wpList_append_rnone (w : World) {ops : Array Oper} {rest : List Oper} {o : Oper} {a : Act} {Q : Exit → Act → World → Prop} (hw : Region.wanted o (yielded ops a.tmps) = true) (s x : Operand)
    (ho : o.op = .call { callee := .builtin .append, args := #[s, x], argTypes := #[41, 41] })
    (Bd : Nat) (v1 : Value) (n : Nat) (xs : List Value) (hs : a.eval s = v1) (hx : a.eval x = .slice none 0 0) (h1 : w.ownsRow Bd 83 5 v1 n xs)
    (h : wpList Tryz.prog ops Q rest (a.put o.dst v1) w) :
    wpList Tryz.prog ops Q (o :: rest) a w := by
  refine wpList_step fun K hK => ?_
  rw [if_pos hw]
  obtain ⟨i, hi, hz0, hz1, hz2⟩ := info_parts infoR
  have hrun := run_append_owned_none (P := Tryz.prog) w Bd 41 o.type 83 i 5 Tryz.underlying41 hi v1 n xs h1
  unfold Oper.wp
  simp [execOp, ho, resolve, invoke, builtin, hs, hx, hrun, Result.andThen]
  exact hK _ _ h
/-- Each op is one of p's, with its own cases. -/
def CSp (w : World) (a : Option Addr) (p : List OpD) (F : List OpD) (svs : List Value) : Prop := ∀ (j : Nat) (o : OpD) (sv : Value), F[j]? = some o → svs[j]? = some sv → ∃ i b f0, p[i]? = some o ∧ a = some ⟨b, f0, none⟩ ∧ w.cell? ⟨b, f0 + i * 5 + 4, none⟩ = some sv
theorem CSp.app {w : World} {a : Option Addr} {p F G : List OpD} {s t : List Value} (h1 : CSp w a p F s) (h2 : CSp w a p G t) (hl : s.length = F.length) : CSp w a p (F ++ G) (s ++ t) := by
  intro j o sv hj hs
  by_cases hjF : j < F.length
  · rw [List.getElem?_append_left hjF] at hj
    rw [List.getElem?_append_left (by omega)] at hs
    exact h1 j o sv hj hs
  · rw [List.getElem?_append_right (by omega)] at hj
    rw [List.getElem?_append_right (by omega), hl] at hs
    exact h2 _ o sv hj hs
theorem CSp.sub {w wo : World} {b f0 : Nat} {p bb qq gg : List OpD} {svs : List Value} {j : Nat} (hA : AtP w (some ⟨b, f0, none⟩) p) (K : Kept w wo) (hp : p.drop (j + 1) = bb ++ qq) (h : CSp wo (some ⟨b, f0 + (j + 1) * 5, none⟩) bb gg svs) : CSp w (some ⟨b, f0, none⟩) p gg svs := by
  intro q o sv hq hs
  obtain ⟨i, b', f', hi, e, hc⟩ := h q o sv hq hs
  cases e
  have hil := (List.getElem?_eq_some_iff.1 hi).1
  have hpi : p[j + 1 + i]? = some o := by
    rw [← List.getElem?_drop, hp, List.getElem?_append_left hil]
    exact hi
  obtain ⟨b2, f2, e2, ho⟩ := hA (j + 1 + i) o hpi
  cases e2
  obtain ⟨ca, cc, h1, _⟩ := ho.cs
  have h1' := K.cell h1
  rw [show f0 + (j + 1 + i) * 5 + 4 = f0 + (j + 1) * 5 + i * 5 + 4 by omega] at h1 h1'
  rw [hc] at h1'
  refine ⟨j + 1 + i, b, f0, hpi, rfl, ?_⟩
  rw [show f0 + (j + 1 + i) * 5 + 4 = f0 + (j + 1) * 5 + i * 5 + 4 by omega, h1, h1']
def RR (w : World) (a : Option Addr) (p : List OpD) (wr : World) (v : Value) (F : List OpD) : Prop := ∃ svs : List Value, svs.length = F.length ∧ wr.ownsRow w.heap.size 83 5 v F.length (flatO F svs) ∧ CSp w a p F svs
theorem csp_one {w : World} {a : Option Addr} {p F : List OpD} {svs : List Value} (hA : AtP w a p) (h : CSp w a p F svs) : ∀ sv ∈ svs, (∃ j, j < F.length ∧ svs[j]? = some sv) → sv.oneCell' = true := by
  intro sv _ ⟨j, hj, hs⟩
  obtain ⟨i, b, f0, hi, e, hc⟩ := h j F[j] sv (List.getElem?_eq_getElem hj) hs
  subst e
  obtain ⟨b2, f2, e2, ho⟩ := hA i _ hi
  cases e2
  obtain ⟨ca, cc, h1, _⟩ := ho.cs
  rw [hc] at h1
  cases h1
  rfl
/-- What such a row shows. -/
theorem RR.view {w : World} {a : Option Addr} {p : List OpD} {wr : World} {v : Value} {F : List OpD} (h : RR w a p wr v F) (hA : AtP w a p) (K : Kept w wr) : ∃ a' c, v = .slice a' F.length c ∧ F.length ≤ c ∧ AtP wr a' F := by
  obtain ⟨svs, hl, hrow, hcs⟩ := h
  rcases hrow.2 with ⟨h1, h2⟩ | ⟨g, cap, cur, h1, _, _, h3, _⟩
  · refine ⟨none, 0, by rw [h1, h2], by omega, ?_⟩
    rw [List.eq_nil_of_length_eq_zero h2]
    exact AtP.nil _ _
  · refine ⟨some ⟨g, 0, none⟩, cap, h1, h3, ?_⟩
    intro j o hj
    have hjl := (List.getElem?_eq_some_iff.1 hj).1
    have hsv : svs[j]? = some svs[j] := List.getElem?_eq_getElem (by omega)
    rw [h1] at hrow
    have hc : ∀ i, i < 5 → wr.cell? ⟨g, 0 + j * 5 + i, none⟩ = (opV o svs[j])[i]? := by
      intro i hi
      rw [Nat.zero_add, hrow.cellAt (j * 5 + i) (by omega), flatO_get F svs j i o svs[j] hj hsv hi]
    obtain ⟨i, b, f0, hi, e, hce⟩ := hcs j o svs[j] hj hsv
    subst e
    obtain ⟨b2, f2, e2, ho⟩ := hA i _ hi
    cases e2
    obtain ⟨ca, cc, q1, q2, q3, q4⟩ := ho.cs
    rw [hce] at q1
    have q1' := Option.some.inj q1
    refine ⟨g, 0, rfl, hc 0 (by omega), hc 1 (by omega), hc 2 (by omega), hc 3 (by omega), ca, cc, ?_, q2, q3, q4.kept K⟩
    rw [hc 4 (by omega), q1']
    rfl
end Go.Proofs.YtlkbphogpbcjfaaGreatDoor
namespace Go.Proofs.YtlkbphogpbcjfaaGreatDoor
open Go.RowKit

theorem csp_ones {w : World} {a : Option Addr} {p F : List OpD} {svs : List Value} (hA : AtP w a p) (h : CSp w a p F svs) (hl : svs.length = F.length) : ∀ sv ∈ svs, sv.oneCell' = true := by
  intro sv hs
  obtain ⟨j, hj, e⟩ := List.getElem_of_mem hs
  exact csp_one hA h sv hs ⟨j, by omega, by rw [List.getElem?_eq_getElem hj, e]⟩
theorem rep_nilg (i : Nat) : rep i [] = [] := by unfold rep; simp
set_option maxHeartbeats 16000000 in
set_option maxRecDepth 20000 in
theorem rflat_step (d m m' : Nat) (p f : List OpD) (a : Option Addr) (c : Nat) (w : World) (hbal : Bal d m m' p f) (hA : AtP w a p) (hcap : p.length ≤ c) (hc : ∀ o ∈ p, checkD o = 0) (hp : p.length ≤ 1000) (hf : f.length ≤ 100000)
    (ih : ∀ (d' m m' : Nat) (p f : List OpD) (a : Option Addr) (c : Nat) (w : World), d = d' + 1 → Bal d' m m' p f → AtP w a p → p.length ≤ c → (∀ o ∈ p, checkD o = 0) → p.length ≤ 1000 → f.length ≤ 100000 →
      Calls Tryz.prog 42 #[.slice a p.length c] w fun e w' => ∃ v, e = .returned v ∧ RR w a p w' v f ∧ Kept w w') :
    Calls Tryz.prog 42 #[.slice a p.length c] w fun e w' => ∃ v, e = .returned v ∧ RR w a p w' v f ∧ Kept w w' := by
  have HA : Hid (AtP w a p) := hA
  have HC : Hid (∀ o ∈ p, checkD o = 0) := hc
  have HIH : Hid (∀ (d' m m' : Nat) (p f : List OpD) (a : Option Addr) (c : Nat) (w : World), d = d' + 1 → Bal d' m m' p f → AtP w a p → p.length ≤ c → (∀ o ∈ p, checkD o = 0) → p.length ≤ 1000 → f.length ≤ 100000 → Calls Tryz.prog 42 #[.slice a p.length c] w fun e w' => ∃ v, e = .returned v ∧ RR w a p w' v f ∧ Kept w w') := ih
  have M0 : Hid (RR w a p w (.slice none 0 0) []) := ⟨[], rfl, World.ownsRow_nil _ _ _ _, fun j o sv h _ => by simp at h⟩
  have HB0 : Hid (∃ mj f2, Bal d mj m' (p.drop 0) f2 ∧ f = [] ++ f2) := ⟨m, f, by rw [List.drop_zero]; exact hbal, rfl⟩
  clear hA hc hbal ih
  go_enter Tryz.func42, Tryz.ntmps42
  go_wp2_with fail
  go_loopg [3, 4] p.length (fun gk x3 i wr => ∃ (j : Nat) (vd : Value) (F1 : List OpD) (W : World), W = wr ∧ vd = x3 ∧ i = .int .i64 j ∧ p.length ≤ j + gk ∧ Hid (∃ mj f2, Bal d mj m' (p.drop j) f2 ∧ f = F1 ++ f2) ∧ Hid (RR w a p W vd F1) ∧ Kept w W)
  case atStart => exact ⟨0, _, [], _, rfl, rfl, rfl, by omega, HB0, M0, Kept.refl w⟩
  case round =>
    obtain ⟨j, vd, F1, wo, hWo, hx3, rfl, hj, HB, HM, K⟩ := hrel
    subst hWo
    subst hx3
    by_cases hjp : j < p.length
    · obtain ⟨b, f0, k, n, v, wt, l, ca, cc, rfl, hpj, g0, g1, g2, g3, g4, hcc, hat, hbl, hdr⟩ := HA.out.get j hjp
      have c0 := K.cell g0
      have c1 := K.cell g1
      have c2 := K.cell g2
      have c3 := K.cell g3
      have c4 := K.cell g4
      have HG1 : Hid (w.cell? ⟨b, f0 + j * 5 + 1, none⟩ = some (.int .i64 n)) := g1
      have HG4 : Hid (w.cell? ⟨b, f0 + j * 5 + 4, none⟩ = some (.slice ca l.length cc)) := g4
      have b1 : (j : Int) < (p.length : Int) := by omega
      have b2 : (0 : Int) ≤ (j : Int) := by omega
      have b5 : (j : Int) ≤ (c : Int) := by omega
      have b6 : (j : Int) + 1 ≤ (p.length : Int) := by omega
      have HCK : Hid (checkD ⟨k, n, v, wt, l⟩ = 0) := HC.out _ (List.mem_of_getElem? hpj)
      obtain ⟨mj, f2, hb2, hff⟩ := HB.out
      rw [hdr] at hb2
      have HD : Hid (p.drop j = ⟨k, n, v, wt, l⟩ :: p.drop (j + 1)) := hdr
      have HPJ : Hid (p[j]? = some ⟨k, n, v, wt, l⟩) := hpj
      obtain ⟨g3', rfl⟩ : ∃ g, gk = g + 1 := ⟨gk - 1, by omega⟩
      clear hpj hdr hat g0 g1 g2 g3 g4 hcc HB
      rcases bal_cons hb2 with ⟨h8, h9, m1, f', hf2, hb3⟩ | ⟨h8, d', bb, gg, ee, qq, f', hdd, hpp, h9, hf2, hbb, hb3⟩
      · simp only at h8 h9
        have k8 : (k == 8) = false := beq_eq_false_iff_ne.2 h8
        have k9 : (k == 9) = false := beq_eq_false_iff_ne.2 h9
        have HB2 : Hid (∃ mj f2, Bal d mj m' (p.drop (j + 1)) f2 ∧ f = (F1 ++ [⟨k, n, v, wt, l⟩]) ++ f2) := ⟨m1, f', hb3, by rw [hff, hf2]; simp⟩
        have hlen : F1.length + 1 ≤ 1000000 := by
          have := congrArg List.length hff
          rw [hf2] at this
          simp at this
          omega
        obtain ⟨svs, hsl, hrow, hcs⟩ := HM.out
        have HROW : Hid ((wo.alloc (.cells #[.int .i64 k, .int .i64 n, .int .i64 v, .int .i64 wt, .slice ca l.length cc] 83)).ownsRow w.heap.size 83 5 vd F1.length (flatO F1 svs)) := World.ownsRow.alloc hrow _
        have HOWN : Hid (∀ q, vd.ownBlock = some q → w.heap.size ≤ q) := fun q hq => (World.ownsRow.lt hrow q hq).1
        have HCS : Hid (CSp w (some ⟨b, f0, none⟩) p (F1 ++ [⟨k, n, v, wt, l⟩]) (svs ++ [.slice ca l.length cc])) := by
          refine hcs.app (fun q o sv hq hs => ?_) hsl
          have hq0 : q = 0 := by have := (List.getElem?_eq_some_iff.1 hq).1; simp at this; exact this
          subst hq0
          simp at hq hs
          subst hq
          subst hs
          exact ⟨j, b, f0, HPJ.out, rfl, HG4.out⟩
        have HCC : Hid (∀ (i : Nat) (u : Value), (flatO [⟨k, n, v, wt, l⟩] [.slice ca l.length cc])[i]? = some u → (wo.alloc (.cells #[.int .i64 k, .int .i64 n, .int .i64 v, .int .i64 wt, .slice ca l.length cc] 83)).cell? ⟨wo.heap.size, i, none⟩ = some u) := fun i u hu => by
          rw [World.cell?_alloc_at _ _ _ _ rfl]
          simpa [flatO, opV] using hu
        have HFA : Hid (flatO (F1 ++ [⟨k, n, v, wt, l⟩]) (svs ++ [.slice ca l.length cc]) = flatO F1 svs ++ flatO [⟨k, n, v, wt, l⟩] [.slice ca l.length cc]) := flatO_app F1 svs _ _ hsl
        have KA := K.alloc (.cells #[.int .i64 k, .int .i64 n, .int .i64 v, .int .i64 wt, .slice ca l.length cc] 83)
        clear hb2 hb3 hf2 hff h8 h9 hrow hcs
        go_wp2_with (at_builtin; refine wpList_append_rops _ (by rfl) _ _ rfl w.heap.size vd F1.length (flatO F1 svs) (flatO [⟨k, n, v, wt, l⟩] [.slice ca l.length cc]) 1 1 (by simp [flatO, opV]) (flatO_one _ _ (fun s hs => by simp at hs; subst hs; rfl)) (by rfl) wo.heap.size (by rfl) HCC.out HROW.out hlen KA.size ?_; intro v5 w5 R5 t5 o5; have K5 := t5.kept KA HOWN.out; have HR5 : Hid (w5.ownsRow w.heap.size 83 5 v5 (F1.length + 1) (flatO F1 svs ++ flatO [⟨k, n, v, wt, l⟩] [.slice ca l.length cc])) := R5; clear R5)
        go_roundg g3'
        case rel =>
          refine ⟨j + 1, v5, F1 ++ [⟨k, n, v, wt, l⟩], _, rfl, rfl, by go_num, by omega, HB2, ⟨svs ++ [.slice ca l.length cc], by simp [hsl], ?_, HCS.out⟩, K5⟩
          rw [HFA.out, List.length_append]
          exact HR5.out
        case measure => omega
      · simp only at h8
        subst h8
        obtain ⟨hn1, hn2⟩ := loop_n HCK.out
        obtain ⟨R, hR⟩ : ∃ R : Nat, n = (R : Int) := ⟨n.toNat, by omega⟩
        subst hR
        have hR1 : 1 ≤ R := by omega
        have hR32 : R ≤ 32 := by omega
        rw [show ((R : Int)).toNat = R from rfl] at hf2
        have hpl : p.length = j + 1 + bb.length + 1 + qq.length := by
          have h := congrArg List.length hpp
          simp at h
          omega
        have HMA : Hid (matchD p (j : Int) = ((j + 1 + bb.length : Nat) : Int)) := match_bal hbb rfl h9 (by rw [HD.out, hpp])
        have HDQ : Hid (p.drop (j + 1 + bb.length + 1) = qq) := by
          show _ = _
          rw [show j + 1 + bb.length + 1 = (j + 1) + (bb.length + 1) by omega, ← List.drop_drop, hpp]
          simp
        have HB2 : Hid (∃ mj f2, Bal d mj m' (p.drop (j + 1 + bb.length + 1)) f2 ∧ f = (F1 ++ rep R gg) ++ f2) := ⟨mj, f', by rw [HDQ.out]; exact hb3, by rw [hff, hf2]; simp⟩
        have hlen : F1.length + R * gg.length ≤ 100000 := by
          have h := congrArg List.length hff
          rw [hf2] at h
          simp only [List.length_append, rep_len] at h
          omega
        have hgl : gg.length ≤ R * gg.length := Nat.le_mul_of_pos_left _ hR1
        have hmem : ∀ o ∈ bb, checkD o = 0 := fun o ho => HC.out o (List.mem_of_mem_drop (i := j + 1) (by rw [hpp]; simp [ho]))
        have hATb : AtP wo (some ⟨b, f0 + (j + 1) * 5, none⟩) bb := by
          have h := ((HA.out.kept K).drop (j + 1)).take bb.length
          rw [hpp, List.take_left' rfl] at h
          exact h
        have HATB : Hid (AtP wo (some ⟨b, f0 + (j + 1) * 5, none⟩) bb) := hATb
        have HPP : Hid (p.drop (j + 1) = bb ++ (ee :: qq)) := hpp
        have hih := HIH.out d' mj mj bb gg (some ⟨b, f0 + (j + 1) * 5, none⟩) (c - (j + 1)) wo hdd hbb hATb (by omega) hmem (by omega) (by omega)
        have hma := rmatch_loop (some ⟨b, f0, none⟩) c p j ⟨8, (R : Int), v, wt, l⟩ wo (HA.out.kept K) (by omega) HPJ.out rfl
        rw [HMA.out] at hma
        obtain ⟨en, hen⟩ : ∃ en, j + 1 + bb.length = en := ⟨_, rfl⟩
        rw [hen] at hma HB2
        have hsub : en - (j + 1) = bb.length := by omega
        have e1 : (j : Int) + 1 ≤ (en : Int) := by omega
        have e2 : (en : Int) ≤ (c : Int) := by omega
        have e3 : (en : Int) < (p.length : Int) := by omega
        have e4 : (en : Int) ≤ (p.length : Int) := by omega
        have hjc2 : ¬ j + 1 = c := by omega
        have e0 : (0 : Int) ≤ (j : Int) + 1 := by omega
        have hjc3 : ¬ c = j + 1 := by omega
        have hwj : ∀ z : Int, z = (j : Int) + 1 → IntKind.i64.wrap z = z := wrap_at (j + 1) (by omega)
        have HEN : Hid (p.length ≤ en + 1 + g3' ∧ en + 1 ≤ p.length) := ⟨by omega, by omega⟩
        have HLEN : Hid (F1.length + R * gg.length ≤ 100000) := hlen
        have HGL : Hid (gg.length ≤ R * gg.length) := hgl
        clear hb2 hb3 hf2 hff hpp h9 hbb hmem hATb hdd hen hlen hgl hpl hn1 hn2
        go_wp2_with fail
        refine hma.mono ?_
        rintro e w4 ⟨rfl, hw4⟩
        subst w4
        go_wp2_with fail
        refine hih.mono ?_
        rintro e w5 ⟨vb, rfl, ⟨tvs, htl, hbrow, hbcs⟩, t5⟩
        have K5 := K.trans t5
        have HBC : Hid (CSp w (some ⟨b, f0, none⟩) p gg tvs) := CSp.sub HA.out K HPP.out hbcs
        have HBO : Hid (∀ u ∈ flatO gg tvs, u.oneCell' = true) := flatO_one _ _ (csp_ones HATB.out hbcs htl)
        have HTL : Hid (tvs.length = gg.length) := htl
        obtain ⟨vbl, hvbl⟩ : ∃ x, vb = x := ⟨_, rfl⟩
        have HM5 : Hid (RR w (some ⟨b, f0, none⟩) p w5 vd F1) := by
          obtain ⟨svs, h1, h2, h3⟩ := HM.out
          exact ⟨svs, h1, own_kept h2 t5, h3⟩
        have HVD : Hid (∀ q, vd.ownBlock = some q → q < wo.heap.size) := fun q hq => by
          obtain ⟨svs, h1, h2, h3⟩ := HM.out
          exact (World.ownsRow.lt h2 q hq).2
        have HBR : Hid (w5.ownsRow wo.heap.size 83 5 vb gg.length (flatO gg tvs)) := hbrow
        have HCG : Hid (∀ w', Kept w w' → w'.cell? ⟨b, f0 + j * 5 + 1, none⟩ = some (.int .i64 (R : Int))) := fun w' t => t.cell HG1.out
        clear hih hma hbcs htl hvbl c0 c1 c2 c3 c4 HM
        rcases hbrow.2 with ⟨hv0, hg0⟩ | ⟨gb, capb, cur, hvb, hgb1, _, _, _⟩
        · have hgg : gg = [] := List.eq_nil_of_length_eq_zero hg0
          subst hgg
          subst hv0
          have HB3 : Hid (∃ mj f2, Bal d mj m' (p.drop (en + 1)) f2 ∧ f = F1 ++ f2) := by
            obtain ⟨mj, f2, h1, h2⟩ := HB2.out
            rw [rep_nilg, List.append_nil] at h2
            exact ⟨mj, f2, h1, h2⟩
          clear hbrow HB2 HBR HBC HBO HTL hg0
          go_wp2_with fail
          go_loopg [3, 7] R (fun gk2 y3 cnt wr => ∃ (i : Nat) (vz : Value) (W : World), W = wr ∧ vz = y3 ∧ cnt = .int .i64 i ∧ i + gk2 = R ∧ Hid (RR w (some ⟨b, f0, none⟩) p W vz F1) ∧ Kept w W)
          case atStart => exact ⟨0, vd, _, rfl, rfl, rfl, by omega, HM5, K5⟩
          case round =>
            obtain ⟨i, vz, W, hWW, hy3, rfl, hi, HZ, KW⟩ := hrel
            subst hWW
            subst hy3
            have cg := HCG.out W KW
            by_cases hiR : i < R
            · have d1 : (i : Int) < (R : Int) := by omega
              obtain ⟨svs, h1, h2, h3⟩ := HZ.out
              have HRW : Hid (W.ownsRow w.heap.size 83 5 vz F1.length (flatO F1 svs)) := h2
              obtain ⟨g4, rfl⟩ : ∃ g, gk = g + 1 := ⟨gk - 1, by omega⟩
              clear h1 h2 h3
              go_wp2_with (at_builtin; refine wpList_append_rnone _ (by rfl) _ _ rfl w.heap.size vz F1.length (flatO F1 svs) (by rfl) (by rfl) HRW.out ?_)
              go_roundg g4
              case rel => exact ⟨i + 1, vz, _, rfl, rfl, by go_num, by omega, HZ, KW⟩
              case measure => omega
            · have d1 : ¬ (i : Int) < (R : Int) := by omega
              go_wp2_with fail
              go_roundg g3'
              case rel => exact ⟨en + 1, vz, F1, _, rfl, rfl, by go_num, HEN.out.1, HB3, HZ, KW⟩
              case measure => omega
        · subst hvb
          have HGB : Hid (wo.heap.size ≤ gb) := hgb1
          clear hbrow
          have HM6 : Hid (RR w (some ⟨b, f0, none⟩) p w5 vd (F1 ++ rep 0 gg)) := by
            have h := HM5.out
            show RR _ _ _ _ _ _
            rw [show F1 ++ rep 0 gg = F1 by simp [rep]]
            exact h
          go_wp2_with fail
          go_loopg [3, 7] R (fun gk2 y3 cnt wr => ∃ (i : Nat) (vz : Value) (W : World), W = wr ∧ vz = y3 ∧ cnt = .int .i64 i ∧ i + gk2 = R ∧ Hid (RR w (some ⟨b, f0, none⟩) p W vz (F1 ++ rep i gg)) ∧ Hid (W.ownsRow wo.heap.size 83 5 (.slice (some ⟨gb, 0, none⟩) gg.length capb) gg.length (flatO gg tvs)) ∧ Hid (vz.ownBlock ≠ some gb) ∧ Kept w W)
          case atStart => exact ⟨0, vd, _, rfl, rfl, rfl, by omega, HM6, HBR, (fun e => by have := HVD.out gb e; have := HGB.out; omega), K5⟩
          case round =>
            obtain ⟨i, vz, W, hWW, hy3, rfl, hi, HZ, HBW, HNE, KW⟩ := hrel
            subst hWW
            subst hy3
            have cg := HCG.out W KW
            by_cases hiR : i < R
            · have d1 : (i : Int) < (R : Int) := by omega
              obtain ⟨svs, h1, h2, h3⟩ := HZ.out
              have HRW : Hid (W.ownsRow w.heap.size 83 5 vz (F1 ++ rep i gg).length (flatO (F1 ++ rep i gg) svs)) := h2
              have HSL : Hid (svs.length = (F1 ++ rep i gg).length) := h1
              have HCSZ : Hid (CSp w (some ⟨b, f0, none⟩) p (F1 ++ rep i gg) svs) := h3
              have HOWN : Hid (∀ q, vz.ownBlock = some q → w.heap.size ≤ q) := fun q hq => (World.ownsRow.lt h2 q hq).1
              have HL2 : Hid ((F1 ++ rep i gg).length + gg.length ≤ 1000000) := by
                show _ ≤ _
                rw [List.length_append, rep_len]
                have h1 := HLEN.out
                have h2 : (i + 1) * gg.length ≤ R * gg.length := Nat.mul_le_mul_right _ (by omega)
                rw [Nat.add_mul] at h2
                omega
              have HYL : Hid ((flatO gg tvs).length = gg.length * 5) := flatO_len _ _ HTL.out
              have HCC : Hid (∀ (q : Nat) (u : Value), (flatO gg tvs)[q]? = some u → W.cell? ⟨gb, q, none⟩ = some u) := fun q u hu => by
                have hq := (List.getElem?_eq_some_iff.1 hu).1
                rw [HYL.out] at hq
                rw [HBW.out.cellAt q hq]
                exact hu
              have gbl := (World.ownsRow.lt HBW.out gb rfl).2
              obtain ⟨g4, rfl⟩ : ∃ g, gk = g + 1 := ⟨gk - 1, by omega⟩
              clear h1 h2 h3
              go_wp2_with (at_builtin; refine wpList_append_rops _ (by rfl) _ _ rfl w.heap.size vz (F1 ++ rep i gg).length (flatO (F1 ++ rep i gg) svs) (flatO gg tvs) gg.length capb HYL.out HBO.out (by rfl) gb (by rfl) HCC.out HRW.out HL2.out KW.size ?_; intro v6 w6 R6 t6 o6; have K6 := t6.kept KW HOWN.out; have HR6 : Hid (w6.ownsRow w.heap.size 83 5 v6 ((F1 ++ rep i gg).length + gg.length) (flatO (F1 ++ rep i gg) svs ++ flatO gg tvs)) := R6; clear R6)
              go_roundg g4
              case rel =>
                refine ⟨i + 1, v6, _, rfl, rfl, by go_num, by omega, ?_, owns_turns HBW.out t6 (fun q hq e => by simp [Value.ownBlock] at hq; subst hq; exact HNE.out e), (fun e => ?_), K6⟩
                · rw [rep_succ, ← List.append_assoc]
                  refine ⟨svs ++ tvs, by simp only [List.length_append, HSL.out, HTL.out], ?_, HCSZ.out.app HBC.out HSL.out⟩
                  rw [flatO_app _ _ _ _ HSL.out, List.length_append (bs := gg)]
                  exact HR6.out
                · rcases o6 with h | h
                  · exact HNE.out (by rw [← h]; exact e)
                  · have := h gb e; omega
              case measure => omega
            · have d1 : ¬ (i : Int) < (R : Int) := by omega
              obtain rfl : i = R := by omega
              go_wp2_with fail
              go_roundg g3'
              case rel => exact ⟨en + 1, vz, F1 ++ rep i gg, _, rfl, rfl, by go_num, HEN.out.1, HB2, HZ, KW⟩
              case measure => omega
    · have b1 : ¬ (j : Int) < (p.length : Int) := by omega
      have HFF : Hid (f = F1) := by
        obtain ⟨mj, f2, h1, h2⟩ := HB.out
        rw [List.drop_eq_nil_of_le (by omega)] at h1
        have := (bal_nil h1).1
        show _ = _
        rw [h2, this, List.append_nil]
      go_wp2_with fail
      go_ret
      refine ⟨_, rfl, ?_, K⟩
      rw [HFF.out]
      exact HM.out
theorem rflat_any : ∀ (d m m' : Nat) (p f : List OpD) (a : Option Addr) (c : Nat) (w : World), Bal d m m' p f → AtP w a p → p.length ≤ c → (∀ o ∈ p, checkD o = 0) → p.length ≤ 1000 → f.length ≤ 100000 →
    Calls Tryz.prog 42 #[.slice a p.length c] w fun e w' => ∃ v, e = .returned v ∧ RR w a p w' v f ∧ Kept w w'
  | 0, m, m', p, f, a, c, w, h1, h2, h3, h4, h5, h6 => rflat_step 0 m m' p f a c w h1 h2 h3 h4 h5 h6 (fun d' m m' p f a c w e => by omega)
  | d + 1, m, m', p, f, a, c, w, h1, h2, h3, h4, h5, h6 => rflat_step (d + 1) m m' p f a c w h1 h2 h3 h4 h5 h6 (fun d' m m' p f a c w e => by
      obtain rfl : d = d' := by omega
      exact rflat_any d m m' p f a c w)
end Go.Proofs.YtlkbphogpbcjfaaGreatDoor
