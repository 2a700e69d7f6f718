/- BlockFree, walked. -/
import Derived.Test.YtcbpbidimocpjaaDoorCtA
import Derived.Test.YtcbpbidimocpjaaDoorKnB
import Derived.Test.YtcbpbidimocpjaaDoorBfP
namespace Go.Proofs.YtcbpbidimocpjaaDoor
open Go.RowKit Go.Sort

/-- A row of the reference's ops of the call's own, each one of p's, with p's own cases. -/
def RB (Bd : Nat) (w : World) (a : Option Addr) (p : List OpD) (wr : World) (v : Value) (F : List OpD) : Prop := ∃ svs : List Value, svs.length = F.length ∧ wr.ownsRow Bd 35 5 v F.length (flatO F svs) ∧ CSp w a p F svs
theorem RB.nil (Bd : Nat) (w : World) (a : Option Addr) (p : List OpD) (wr : World) : RB Bd w a p wr (.slice none 0 0) [] := ⟨[], rfl, World.ownsRow_nil _ _ _ _, fun j o sv h _ => by simp at h⟩
theorem RB.turns {S : Nat → Prop} {Bd : Nat} {w w1 w2 : World} {a : Option Addr} {p : List OpD} {v : Value} {F : List OpD} (h : RB Bd w a p w1 v F) (t : Turns S w1 w2) (hS : ∀ k, S k → k < Bd) : RB Bd w a p w2 v F := by
  obtain ⟨svs, h1, h2, h3⟩ := h
  exact ⟨svs, h1, owns_turns h2 t (fun q hq e => by have h4 := (World.ownsRow.lt h2 q hq).1; have h5 := hS q e; omega), h3⟩
theorem RB.view {Bd : Nat} {w : World} {a : Option Addr} {p : List OpD} {wr : World} {v : Value} {F : List OpD} (h : RB Bd w a p wr v F) (hA : AtP w a p) (K : Kept w wr) : ∃ a' c, v = .slice a' F.length c ∧ F.length ≤ c ∧ AtP wr a' F := by
  obtain ⟨svs, hl, hrow, hcs⟩ := h
  rcases hrow.2 with ⟨h1, h2⟩ | ⟨g, cap, cur, h1, _, _, h3, _⟩
  · refine ⟨none, 0, by rw [h1, h2], by omega, ?_⟩
    rw [List.eq_nil_of_length_eq_zero h2]
    exact AtP.nil _ _
  · refine ⟨some ⟨g, 0, none⟩, cap, h1, h3, ?_⟩
    intro j o hj
    have hjl := (List.getElem?_eq_some_iff.1 hj).1
    have hsv : svs[j]? = some svs[j] := List.getElem?_eq_getElem (by omega)
    rw [h1] at hrow
    have hc : ∀ i, i < 5 → wr.cell? ⟨g, 0 + j * 5 + i, none⟩ = (opV o svs[j])[i]? := by
      intro i hi
      rw [Nat.zero_add, hrow.cellAt (j * 5 + i) (by omega), flatO_get F svs j i o svs[j] hj hsv hi]
    obtain ⟨i, b, f0, hi, e, hce⟩ := hcs j o svs[j] hj hsv
    subst e
    obtain ⟨b2, f2, e2, ho⟩ := hA i _ hi
    cases e2
    obtain ⟨ca, cc, q1, q2, q3, q4⟩ := ho.cs
    rw [hce] at q1
    have q1' := Option.some.inj q1
    refine ⟨g, 0, rfl, hc 0 (by omega), hc 1 (by omega), hc 2 (by omega), hc 3 (by omega), ca, cc, ?_, q2, q3, q4.kept K⟩
    rw [hc 4 (by omega), q1']
    rfl
/-- One op of p behind such a row. -/
theorem wpList_append_one (w : World) {ops : Array Oper} {rest : List Oper} {o : Oper} {a : Act} {Q : Exit → Act → World → Prop} (hw : Region.wanted o (yielded ops a.tmps) = true) (s x : Operand)
    (ho : o.op = .call { callee := .builtin .append, args := #[s, x], argTypes := #[30, 30] })
    (Bd : Nat) (w0 : World) (pa : Option Addr) (p : List OpD) (v1 : Value) (F : List OpD) (y : OpD) (sv : Value) (hsv : sv.oneCell' = true) (hcs : CSp w0 pa p [y] [sv]) (hs : a.eval s = v1) (nb : Nat) (hx : a.eval x = .slice (some ⟨nb, 0, none⟩) 1 1)
    (hcc : ∀ (j : Nat) (u : Value), (opV y sv)[j]? = some u → w.cell? ⟨nb, j, none⟩ = some u)
    (h1 : RB Bd w0 pa p w v1 F) (hl : F.length ≤ 100000) (hB : Bd ≤ w.heap.size)
    (h : ∀ v' w', RB Bd w0 pa p w' v' (F ++ [y]) → Turns (fun k => v1.ownBlock = some k) w w' → wpList Tryd.prog ops Q rest (a.put o.dst v') w') :
    wpList Tryd.prog ops Q (o :: rest) a w := by
  obtain ⟨svs, q1, q2, q3⟩ := h1
  refine wpList_append_rops w hw s x ho Bd v1 F.length (flatO F svs) (opV y sv) 1 1 (by simp [opV]) (fun u hu => by simp [opV] at hu; rcases hu with rfl | rfl | rfl | rfl | rfl <;> first | rfl | exact hsv) hs nb hx hcc q2 (by omega) hB ?_
  intro v' w' r1 r2 _
  refine h v' w' ⟨svs ++ [sv], by simp [q1], ?_, q3.app hcs q1⟩ r2
  have e : flatO (F ++ [y]) (svs ++ [sv]) = flatO F svs ++ opV y sv := by
    rw [flatO_app F svs _ _ q1]
    simp [flatO]
  rw [e, List.length_append]
  exact r1
theorem CT.cell {Bd : Nat} {S : Nat → Prop} {w : World} {g cap : Nat} {ts : List TaskD} {pvs : List Value} (h : CT Bd S w g cap ts pvs) {j : Nat} {t : TaskD} {pv : Value} (hj : ts[j]? = some t) (hp : pvs[j]? = some pv) {i : Nat} (hi : i < 5) : w.cell? ⟨g, j * 5 + i, none⟩ = (tkW t pv)[i]? := by
  have hj2 := (List.getElem?_eq_some_iff.1 hj).1
  rw [h.row.cellAt (j * 5 + i) (by omega), flatT_get ts pvs j i t pv hj hp hi]

set_option maxHeartbeats 8000000 in
set_option maxRecDepth 20000 in
theorem bfree_law (L : Int) (ca ta : Option Addr) (cc tc : Nat) (cs : List ChanD) (ts : List TaskD) (w : World) (hr : Rdy w) (hH : AtH w ca cs) (hA : AtT w ta ts) :
    Calls Tryd.prog 3 #[.agg #[.int .i64 L, .slice ca cs.length cc, .slice ta ts.length tc]] w fun e w' => e = .returned (.bool true) ∧ Kept w w' := by
  have HR : Hid (Rdy w) := hr
  have HH : Hid (AtH w ca cs) := hH
  have HA : Hid (AtT w ta ts) := hA
  have K0 := (Kept.refl w).alloc (.cells #[.int .i64 L, .slice ca cs.length cc, .slice ta ts.length tc] 25)
  have HB : Hid (Box w.heap.size (w.alloc (.cells #[.int .i64 L, .slice ca cs.length cc, .slice ta ts.length tc] 25)) 25 w.heap.size [.int .i64 L, .slice ca cs.length cc, .slice ta ts.length tc]) := box_new w.heap.size w 25 [.int .i64 L, .slice ca cs.length cc, .slice ta ts.length tc] (Nat.le_refl _) (by simp)
  have hk := bknown_true (w.alloc (.cells #[.int .i64 L, .slice ca cs.length cc, .slice ta ts.length tc] 25)) (HR.out.kept K0)
  clear hr hH hA
  go_enter Tryd.func3, Tryd.ntmps3
  go_wp2_with fail
  refine hk.mono ?_
  rintro e w1 ⟨rfl, T1⟩
  have K1 := K0.trans T1
  have HB1 : Hid (Box w.heap.size w1 25 w.heap.size [.int .i64 L, .slice ca cs.length cc, .slice ta ts.length tc]) := HB.out.kept T1
  clear hk HB K0 T1
  have s0 : w1.cell? ⟨w.heap.size, 0, none⟩ = some (.int .i64 L) := HB1.out.cell 0 (by simp)
  have s1 : w1.cell? ⟨w.heap.size, 1, none⟩ = some (.slice ca cs.length cc) := HB1.out.cell 1 (by simp)
  have s2 : w1.cell? ⟨w.heap.size, 2, none⟩ = some (.slice ta ts.length tc) := HB1.out.cell 2 (by simp)
  have hck := rcset_any L ca ta cc tc cs ts w1 (HH.out.kept K1) (HA.out.kept K1)
  obtain ⟨q1, hq1⟩ : ∃ q, (checkS L cs ts).1 = q := ⟨_, rfl⟩
  obtain ⟨q2, hq2⟩ : ∃ q, (checkS L cs ts).2 = q := ⟨_, rfl⟩
  rw [hq1, hq2] at hck
  have HQ : Hid ((checkS L cs ts).2 = q2) := hq2
  clear hq1 hq2
  go_wp2_with fail
  refine hck.mono ?_
  rintro e w2 ⟨rfl, T2⟩
  have K2 := K1.trans T2
  have HB2 : Hid (Box w.heap.size w2 25 w.heap.size [.int .i64 L, .slice ca cs.length cc, .slice ta ts.length tc]) := HB1.out.kept T2
  clear s0 s1 s2 hck HB1 T2 K1
  have s0 : w2.cell? ⟨w.heap.size, 0, none⟩ = some (.int .i64 L) := HB2.out.cell 0 (by simp)
  have s1 : w2.cell? ⟨w.heap.size, 1, none⟩ = some (.slice ca cs.length cc) := HB2.out.cell 1 (by simp)
  have s2 : w2.cell? ⟨w.heap.size, 2, none⟩ = some (.slice ta ts.length tc) := HB2.out.cell 2 (by simp)
  have hfw := sfew_any L ca ta cc tc cs ts w2 (HA.out.kept K2)
  obtain ⟨fb, hfb⟩ : ∃ fb, fewS cs ts = fb := ⟨_, rfl⟩
  rw [hfb] at hfw
  have HFB : Hid (fewS cs ts = fb) := hfb
  clear hfb
  go_wp2_with fail
  refine hfw.mono ?_
  rintro e w3 ⟨rfl, T3⟩
  have K3 := K2.trans T3
  have HB3 : Hid (Box w.heap.size w3 25 w.heap.size [.int .i64 L, .slice ca cs.length cc, .slice ta ts.length tc]) := HB2.out.kept T3
  clear s0 s1 s2 hfw HB2 T3 K2
  cases fb with
  | false =>
    go_wp2_with fail
    go_ret
    exact ⟨rfl, K3⟩
  | true =>
  by_cases hq0 : q2 = 0
  rotate_left
  · have hne : (q2 != 0) = true := by simpa using hq0
    go_wp2_with fail
    go_ret
    exact ⟨rfl, K3⟩
  subst hq0
  obtain ⟨hn1, hn12, hc8, hL0, hL8⟩ := checkS_len HQ.out
  have HALL : Hid (∀ t ∈ ts, (checkP t.prog).2 = 0 ∧ timesB t = true ∧ hasAllB L cs.length t.prog = true) := checkS_all HQ.out
  have HPG : Hid (∀ t ∈ ts, checkP t.prog = (0, 0)) := fun t ht => prog_0 (HALL.out t ht).1
  obtain ⟨N, rfl⟩ : ∃ N : Nat, L = (N : Int) := ⟨L.toNat, by omega⟩
  obtain ⟨F, hF⟩ := flats_ex HPG.out
  have HF : Hid (∀ (i : Nat) (t : TaskD), ts[i]? = some t → Bal 3 0 0 t.prog (F i)) := hF
  obtain ⟨_, _, hok⟩ := fewS_ok HFB.out
  have HOK : Hid (TsOk ts) := hok
  have HN : Hid (1 ≤ ts.length ∧ ts.length ≤ 12 ∧ N ≤ 8 ∧ cs.length ≤ 8) := ⟨hn1, hn12, by omega, hc8⟩
  have K4 := K3
  have HB5 : Hid (Box w.heap.size w3 25 w.heap.size [.int .i64 (N : Int), .slice ca cs.length cc, .slice ta ts.length tc]) := HB3
  have s2 : w3.cell? ⟨w.heap.size, 2, none⟩ = some (.slice ta ts.length tc) := HB5.out.cell 2 (by simp)
  obtain ⟨tb, tf, hta⟩ : ∃ tb tf, ta = some ⟨tb, tf, none⟩ := by
    obtain ⟨b, f, _, _, _, _, _, _, _, e, _⟩ := HA.out.get 0 (by have := HN.out; omega)
    exact ⟨b, f, e⟩
  subst hta
  have KL : Kept w (w3.alloc (.cells #[] 32)) := K3.alloc _
  have HBL : Hid (Box w.heap.size (w3.alloc (.cells #[] 32)) 25 w.heap.size [.int .i64 (N : Int), .slice ca cs.length cc, .slice (some ⟨tb, tf, none⟩) ts.length tc]) := HB5.out.kept ((Kept.refl w3).alloc _)
  have s2 : (w3.alloc (.cells #[] 32)).cell? ⟨w.heap.size, 2, none⟩ = some (.slice (some ⟨tb, tf, none⟩) ts.length tc) := HBL.out.cell 2 (by simp)
  have hli : (w3.alloc (.cells #[] 32)).ownsRow w.heap.size 32 5 (.slice (some ⟨w3.heap.size, 0, none⟩) 0 0) 0 [] := World.ownsRow_lit (base := w.heap.size) (e := 32) (size := 5) w3 #[] 0 K3.size (by unfold maxLen; omega) (by simp)
  have hb4 := HB5.out.lt.2
  obtain ⟨eb, heb⟩ : ∃ x, w3.heap.size = x := ⟨_, rfl⟩
  have hebx : w.heap.size ≠ eb := by omega
  rw [heb] at hli
  clear HQ HFB hok hF hL0 hL8 hc8 hn1 hn12 HB3 K4
  go_wp2_with (at_builtin; refine wpList_append_tks w (w3.alloc (.cells #[] 32)) KL (by rfl) _ _ rfl ts tb tf ts.length tc eb rfl HN.out.1 (by have := HN.out; omega) (by rw [← heb]; rfl) hli (by rfl) HA.out ?_; intro g cap w7 CT7 T7 hg7; have HB7 := HBL.out.turns T7 hebx; have u2 := HB7.cell 2 (by simp); have fz2 := HB7.frozen 2; simp only [List.getElem?_cons_zero, List.getElem?_cons_succ] at u2)
  have hgx : g ≠ w.heap.size := by
    rcases hg7 with h | h
    · omega
    · have : eb + 1 ≤ g := by rw [← heb]; simpa using h
      omega
  have t8 := turn_set w7 w.heap.size 2 (.slice (some ⟨g, 0, none⟩) ts.length cap)
  have K7 : Kept w w7 := T7.kept KL (fun i e => by rw [e]; omega)
  have K8 : Kept w (w7.setCell ⟨w.heap.size, 2, none⟩ (.slice (some ⟨g, 0, none⟩) ts.length cap)) := t8.kept K7 (fun i e => by rw [e]; exact Nat.le_refl _)
  have HB8 : Hid (Box w.heap.size (w7.setCell ⟨w.heap.size, 2, none⟩ (.slice (some ⟨g, 0, none⟩) ts.length cap)) 25 w.heap.size [.int .i64 (N : Int), .slice ca cs.length cc, .slice (some ⟨g, 0, none⟩) ts.length cap]) := HB7.set 2 _
  have HC8 : Hid (CT w.heap.size (fun k => k = g) (w7.setCell ⟨w.heap.size, 2, none⟩ (.slice (some ⟨g, 0, none⟩) ts.length cap)) g cap (frTs ts 0) (pvsOf w tb tf ts.length)) := by
    have hgb := CT7.lt.1
    rw [frTs_zero]
    exact (CT7.turns t8 (fun k e => by rw [e]; exact Nat.le_refl _) (fun e => hgx e)).less (fun k e => by rw [e]; exact hgb)
  have HGX : Hid (g ≠ w.heap.size ∧ w.heap.size ≤ g) := ⟨hgx, CT7.lt.1⟩
  clear CT7 HB7 u2 fz2 hli s2 HBL K7 KL
  generalize (w7.setCell ⟨w.heap.size, 2, none⟩ (.slice (some ⟨g, 0, none⟩) ts.length cap)) = w8 at *
  clear t8 T7 hg7
  go_wp2_with fail
  go_loopg [5] ts.length (fun gk i wr => ∃ (k : Nat) (pvs : List Value) (W : World), W = wr ∧ i = .int .i64 k ∧ k + gk = ts.length ∧ Hid (CT w.heap.size (fun x => x = g) W g cap (frTs ts k) pvs) ∧ Hid (∀ j, k ≤ j → pvs[j]? = (pvsOf w tb tf ts.length)[j]?) ∧ Hid (Box w.heap.size W 25 w.heap.size [.int .i64 (N : Int), .slice ca cs.length cc, .slice (some ⟨g, 0, none⟩) ts.length cap]) ∧ Kept w W)
  case atStart => exact ⟨0, _, _, rfl, rfl, by omega, HC8, fun j _ => rfl, HB8, K8⟩
  case round =>
    obtain ⟨k, pvs, W, hW, rfl, hk, HC, HV, HBW, K⟩ := hrel
    subst hW
    have s2 : W.cell? ⟨w.heap.size, 2, none⟩ = some (.slice (some ⟨g, 0, none⟩) ts.length cap) := HBW.out.cell 2 (by simp)
    by_cases hkn : k < ts.length
    · have b1 : (k : Int) < (ts.length : Int) := by omega
      have b2 : (0 : Int) ≤ (k : Int) := by omega
      have b12 := HN.out.2.1
      obtain ⟨gm, rfl⟩ : ∃ z, gk = z + 1 := ⟨gk - 1, by omega⟩
      obtain ⟨t, ht⟩ : ∃ t, ts[k]? = some t := ⟨_, List.getElem?_eq_getElem hkn⟩
      obtain ⟨pv, hpv0⟩ : ∃ pv, (pvsOf w tb tf ts.length)[k]? = some pv := ⟨_, List.getElem?_eq_getElem (by simp [pvsOf]; omega)⟩
      obtain ⟨pa, pc, rfl, hpc, hap, _⟩ := pvsOf_at HA.out ht hpv0
      have hpv : pvs[k]? = some (.slice pa t.prog.length pc) := by rw [HV.out k (Nat.le_refl _)]; exact hpv0
      have HCE : Hid (∀ wx, Turns (fun x => W.heap.size ≤ x) W wx → wx.cell? ⟨g, k * 5 + 4, none⟩ = some (.slice pa t.prog.length pc)) := fun wx tx => by
        have h := HC.out.cell (frTs_get ht) hpv (i := 4) (by omega)
        have hl := HC.out.lt.2
        exact tx.cell h hl (by simp only; omega)
      have HBE : Hid (∀ wx, Turns (fun x => W.heap.size ≤ x) W wx → Box w.heap.size wx 25 w.heap.size [.int .i64 (N : Int), .slice ca cs.length cc, .slice (some ⟨g, 0, none⟩) ts.length cap]) := fun wx tx => HBW.out.turns tx (by have := HBW.out.lt.2; omega)
      have HAP : Hid (AtP w pa t.prog) := hap
      have hck := taken_prog (HPG.out t (List.mem_of_getElem? ht))
      have hpl : t.prog.length ≤ 48 := hck.1
      have HT : Hid (ts[k]? = some t) := ht
      obtain ⟨pr, hpr⟩ : ∃ z, t.prog = z := ⟨_, rfl⟩
      have HPR : Hid (t.prog = pr) := hpr
      rw [hpr] at HCE HAP hpl hpc
      have HR0 : Hid (RB W.heap.size w pa pr W (.slice none 0 0) (frP (pr.take 0))) := RB.nil _ _ _ _ _
      clear ht hpv0 hpv hap hck hpr
      go_wp2_with fail
      go_loopg [6, 7] pr.length (fun gk lx i wr => ∃ (j : Nat) (lv : Value) (W2 : World), W2 = wr ∧ lv = lx ∧ i = .int .i64 j ∧ j + gk = pr.length ∧ Hid (RB W.heap.size w pa pr W2 lv (frP (pr.take j))) ∧ Hid (Kept W W2))
      case atStart => exact ⟨0, _, _, rfl, rfl, rfl, by omega, HR0, Kept.refl _⟩
      case round =>
        obtain ⟨j, lv, W2, hW, hlx, rfl, hj, HRB, HK2⟩ := hrel
        subst hW
        subst hlx
        have HTU : Hid (Turns (fun x => W.heap.size ≤ x) W W2) := HK2.out.turns.mono (fun _ _ e => e.elim)
        have u2 : W2.cell? ⟨w.heap.size, 2, none⟩ = some (.slice (some ⟨g, 0, none⟩) ts.length cap) := (HBE.out W2 HTU.out).cell 2 (by simp)
        have u4 := HCE.out W2 HTU.out
        by_cases hjn : j < pr.length
        · have c1 : (j : Int) < (pr.length : Int) := by omega
          have c2 : (0 : Int) ≤ (j : Int) := by omega
          obtain ⟨gi, rfl⟩ : ∃ z, gk = z + 1 := ⟨gk - 1, by omega⟩
          have K2 := K.trans HK2.out
          obtain ⟨b, f, kd, n, v, wt, l, oa, oc, rfl, hpj, g0, g1, g2, g3, g4, hoc, hat, hbl, hdr⟩ := HAP.out.get j hjn
          have c3 : (j : Int) < (pc : Int) := by omega
          have e0 := K2.cell g0
          have e1 := K2.cell g1
          have e2 := K2.cell g2
          have e3 := K2.cell g3
          have e4 := K2.cell g4
          have hcs : CSp w (some ⟨b, f, none⟩) pr [⟨kd, n, v, wt, l⟩] [.slice oa l.length oc] := by
            intro q o sv hq hs
            match q, hq, hs with
            | 0, hq, hs =>
              simp at hq hs
              subst hq hs
              exact ⟨j, b, f, hpj, rfl, g4⟩
            | q + 1, hq, _ => simp at hq
          have hlvb : ∀ q, lv.ownBlock = some q → W.heap.size ≤ q := by
            obtain ⟨svs, _, h2, _⟩ := HRB.out
            exact fun q hq => (World.ownsRow.lt h2 q hq).1
          have KA1 : Kept W (W2.alloc (.cells #[.int .i64 kd, .int .i64 n, .int .i64 v, .int .i64 wt, .slice oa l.length oc] 35)) := HK2.out.alloc _
          have KA2 : Kept W ((W2.alloc (.cells #[.int .i64 kd, .int .i64 n, .int .i64 v, .int .i64 wt, .slice oa l.length oc] 35)).alloc (.cells #[.int .i64 kd, .int .i64 n, .int .i64 v, .int .i64 wt, .slice oa l.length oc] 35)) := KA1.alloc _
          have R1 : RB W.heap.size w (some ⟨b, f, none⟩) pr (W2.alloc (.cells #[.int .i64 kd, .int .i64 n, .int .i64 v, .int .i64 wt, .slice oa l.length oc] 35)) lv (frP (pr.take j)) := HRB.out.turns (((Kept.refl W2).alloc _).turns) (fun _ e => e.elim)
          have R2 : RB W.heap.size w (some ⟨b, f, none⟩) pr ((W2.alloc (.cells #[.int .i64 kd, .int .i64 n, .int .i64 v, .int .i64 wt, .slice oa l.length oc] 35)).alloc (.cells #[.int .i64 kd, .int .i64 n, .int .i64 v, .int .i64 wt, .slice oa l.length oc] 35)) lv (frP (pr.take j)) := R1.turns (((Kept.refl _).alloc _).turns) (fun _ e => e.elim)
          have hcc : ∀ (q : Nat) (u : Value), (opV ⟨kd, n, v, wt, l⟩ (.slice oa l.length oc))[q]? = some u → ((W2.alloc (.cells #[.int .i64 kd, .int .i64 n, .int .i64 v, .int .i64 wt, .slice oa l.length oc] 35)).alloc (.cells #[.int .i64 kd, .int .i64 n, .int .i64 v, .int .i64 wt, .slice oa l.length oc] 35)).cell? ⟨W2.heap.size + 1, q, none⟩ = some u := by
            intro q u hu
            have e : (W2.alloc (.cells #[.int .i64 kd, .int .i64 n, .int .i64 v, .int .i64 wt, .slice oa l.length oc] 35)).heap.size = W2.heap.size + 1 := by simp
            rw [← e, World.cell?_alloc_at _ _ _ _ rfl]
            simpa [opV] using hu
          have hfl : (frP (pr.take j)).length ≤ 100000 := Nat.le_trans (frP_len _) (by rw [List.length_take]; omega)
          have HTK : Hid (frP (pr.take (j + 1)) = if frB ⟨kd, n, v, wt, l⟩ = true then frP (pr.take j) ++ [⟨kd, n, v, wt, l⟩] else frP (pr.take j)) := frP_take hpj
          clear g0 g1 g2 g3 g4 hpj hat hdr hbl
          by_cases hk2 : kd = 2
          · subst hk2
            have HR3 : Hid (RB W.heap.size w (some ⟨b, f, none⟩) pr (W2.alloc (.cells #[.int .i64 2, .int .i64 n, .int .i64 v, .int .i64 wt, .slice oa l.length oc] 35)) lv (frP (pr.take (j + 1)))) := by show RB _ _ _ _ _ _ _; rw [HTK.out, if_neg (by simp [frB])]; exact R1
            clear R1 R2 hcc HTK KA2 hcs
            go_wp2_with fail
            go_roundg gi
            case rel => exact ⟨j + 1, _, _, rfl, rfl, by go_num, by omega, HR3, KA1⟩
            case measure => omega
          · by_cases hk3 : kd = 3
            · subst hk3
              have HR3 : Hid (RB W.heap.size w (some ⟨b, f, none⟩) pr (W2.alloc (.cells #[.int .i64 3, .int .i64 n, .int .i64 v, .int .i64 wt, .slice oa l.length oc] 35)) lv (frP (pr.take (j + 1)))) := by show RB _ _ _ _ _ _ _; rw [HTK.out, if_neg (by simp [frB])]; exact R1
              clear R1 R2 hcc HTK KA2 hcs
              go_wp2_with fail
              go_roundg gi
              case rel => exact ⟨j + 1, _, _, rfl, rfl, by go_num, by omega, HR3, KA1⟩
              case measure => omega
            · have HT3 : Hid (frP (pr.take (j + 1)) = frP (pr.take j) ++ [⟨kd, n, v, wt, l⟩]) := by show _ = _; rw [HTK.out, if_pos (by simp [frB, hk2, hk3])]
              have d2 : (kd != 2) = true := by simpa using hk2
              have d3 : (kd != 3) = true := by simpa using hk3
              clear HTK R1
              go_wp2_with (at_builtin; refine wpList_append_one ((W2.alloc (.cells #[.int .i64 kd, .int .i64 n, .int .i64 v, .int .i64 wt, .slice oa l.length oc] 35)).alloc (.cells #[.int .i64 kd, .int .i64 n, .int .i64 v, .int .i64 wt, .slice oa l.length oc] 35)) (by rfl) _ _ rfl W.heap.size w (some ⟨b, f, none⟩) pr lv (frP (pr.take j)) ⟨kd, n, v, wt, l⟩ (.slice oa l.length oc) rfl hcs (by rfl) (W2.heap.size + 1) (by rfl) hcc R2 hfl KA2.size ?_; intro v9 w9 R9 T9; have HR9 : Hid (RB W.heap.size w (some ⟨b, f, none⟩) pr w9 v9 (frP (pr.take (j + 1)))) := (by show RB _ _ _ _ _ _ _; rw [HT3.out]; exact R9); have K9 : Kept W w9 := T9.kept KA2 (fun i hi => hlvb i hi); clear R9 T9 R2 hcc)
              go_roundg gi
              case rel => exact ⟨j + 1, _, _, rfl, rfl, by go_num, by omega, HR9, K9⟩
              case measure => omega
        · have c1 : ¬ (j : Int) < (pr.length : Int) := by omega
          have HRE : Hid (RB W.heap.size w pa pr W2 lv (frP pr)) := by
            have h := HRB.out
            rw [List.take_of_length_le (by omega)] at h
            exact h
          have K2 := K.trans HK2.out
          obtain ⟨a', c', rfl, hle, _⟩ := HRE.out.view HAP.out K2
          have HC2 : Hid (CT w.heap.size (fun x => x = g) W2 g cap (frTs ts k) pvs) := HC.out.kept HK2.out
          have hgl := HC.out.lt.2
          have HQ : Hid (∀ w', Turns (fun x => x = g) W2 w' → AtP w' a' (frP pr)) := by
            intro w' t'
            obtain ⟨a2, c2, e, _, h⟩ := (HRE.out.turns t' (fun x e => by rw [e]; exact hgl)).view HAP.out (t'.kept K2 (fun x e => by rw [e]; exact HGX.out.2))
            cases e
            exact h
          have hprg := HC2.out.prg rfl (frTs_get HT.out) (frP pr) a' c' hle HQ.out
          have HCN : Hid (CT w.heap.size (fun x => x = g) (W2.setCell ⟨g, k * 5 + 4, none⟩ (.slice a' (frP pr).length c')) g cap (frTs ts (k + 1)) (pvs.set k (.slice a' (frP pr).length c'))) := by
            have e : frTs ts (k + 1) = (frTs ts k).set k { t with prog := frP pr } := by
              rw [← frTs_set HT.out, frT, HPR.out]
            show CT _ _ _ _ _ _ _
            rw [e]
            exact hprg
          have HVN : Hid (∀ i, k + 1 ≤ i → (pvs.set k (.slice a' (frP pr).length c'))[i]? = (pvsOf w tb tf ts.length)[i]?) := by
            intro i hi
            rw [List.getElem?_set_ne (by omega)]
            exact HV.out i (by omega)
          have f4 := HC2.out.frozen (k * 5 + 4)
          have t9 := turn_set W2 g (k * 5 + 4) (.slice a' (frP pr).length c')
          have HBN : Hid (Box w.heap.size (W2.setCell ⟨g, k * 5 + 4, none⟩ (.slice a' (frP pr).length c')) 25 w.heap.size [.int .i64 (N : Int), .slice ca cs.length cc, .slice (some ⟨g, 0, none⟩) ts.length cap]) := (HBE.out W2 HTU.out).turns t9 (fun e => HGX.out.1 e.symm)
          have KN := t9.kept K2 (fun x e => by rw [e]; exact HGX.out.2)
          clear hprg HQ t9
          go_wp2_with fail
          go_roundg gm
          case rel => exact ⟨k + 1, _, _, rfl, by go_num, by omega, HCN, HVN, HBN, KN⟩
          case measure => omega
    · have b1 : ¬ (k : Int) < (ts.length : Int) := by omega
      have s0 : W.cell? ⟨w.heap.size, 0, none⟩ = some (.int .i64 (N : Int)) := HBW.out.cell 0 (by simp)
      have s1 : W.cell? ⟨w.heap.size, 1, none⟩ = some (.slice ca cs.length cc) := HBW.out.cell 1 (by simp)
      obtain ⟨ts2, hts2⟩ : ∃ z, ts.map frT = z := ⟨_, rfl⟩
      have hl2 : ts2.length = ts.length := by rw [← hts2, List.length_map]
      have HAT : Hid (AtT W (some ⟨g, 0, none⟩) ts2) := by
        have h := HC.out.at
        rw [frTs_end _ (by omega), hts2] at h
        exact h
      have HOK2 : Hid (TsOk ts2) := by
        intro t ht
        rw [← hts2] at ht
        obtain ⟨t', ht', rfl⟩ := List.mem_map.1 ht
        have h := HOK.out t' ht'
        exact ⟨h.1, Nat.le_trans (frP_len _) h.2.1, fun o ho => h.2.2 o (List.mem_filter.1 ho).1⟩
      have HPG2 : Hid (∀ t ∈ ts2, checkP t.prog = (0, 0)) := by
        intro t ht
        rw [← hts2] at ht
        obtain ⟨t', ht', rfl⟩ := List.mem_map.1 ht
        obtain ⟨_, _, _, f, hb, _⟩ := taken_prog (HPG.out t' ht')
        exact frP_check (HPG.out t' ht') hb
      have HF2 : Hid (∀ (i : Nat) (t : TaskD), ts2[i]? = some t → Bal 3 0 0 t.prog (frP (F i))) := by
        intro i t ht
        rw [← hts2, fr_at] at ht
        cases hti : ts[i]? with
        | none => rw [hti] at ht; cases ht
        | some t' =>
          rw [hti] at ht
          cases ht
          exact frP_bal (HF.out i t' hti)
      have HLE : Hid (∀ i, i < ts.length → (blkS (fun i => frP (F i)) ts2 N)[i]? = some 0) := by
        intro i hi
        have h := fr_blk F ts i N
        rw [hts2] at h
        rw [← h]
        exact blkD_get (by rw [hl2]; exact hi)
      have hto := sto_any (N : Int) ca (some ⟨g, 0, none⟩) cc cap cs ts2 W (HH.out.kept K) HAT.out HOK2.out (by have := HN.out; omega) (by have := HN.out; omega)
      rw [hl2] at hto
      clear hts2
      go_wp2_with fail
      refine hto.mono ?_
      rintro e w10 ⟨xa2, xc2, ya2, yc2, rfl, -, AX, -, T10⟩
      have K10 := K.trans T10
      have hof := bof_any N xa2 ya2 cs.length xc2 yc2 ts2 (fun i => frP (F i)) w10 (HR.out.kept K10) AX HOK2.out (by have := HN.out; omega) (by have := HN.out; omega) HN.out.2.2.1 HPG2.out HF2.out
      rw [hl2] at hof
      clear hto AX
      go_wp2_with fail
      refine hof.mono ?_
      rintro e w11 ⟨g11, rfl, -, C11, T11⟩
      have HC11 : Hid (AtI w11 (some ⟨g11, 0, none⟩) (blkS (fun i => frP (F i)) ts2 N)) := C11
      have HK11 : Hid (Kept W w11) := T10.trans T11
      have K11 := K10.trans T11
      clear hof C11 T11 s0 s1 s2
      go_wp2_with fail
      go_loopg [10] ts.length (fun gk i wr => ∃ (j : Nat) (W2 : World), W2 = wr ∧ i = .int .i64 j ∧ j + gk = ts.length ∧ Hid (Kept w11 W2))
      case atStart => exact ⟨0, _, rfl, rfl, by omega, Kept.refl _⟩
      case round =>
        obtain ⟨j, W2, hW, rfl, hj, HK2⟩ := hrel
        subst hW
        by_cases hjn : j < ts.length
        · have c1 : (j : Int) < (ts.length : Int) := by omega
          have c2 : (0 : Int) ≤ (j : Int) := by omega
          have b12 := HN.out.2.1
          obtain ⟨gm, rfl⟩ : ∃ z, gk = z + 1 := ⟨gk - 1, by omega⟩
          obtain ⟨b', f', e', cy⟩ := (HC11.out.kept HK2.out) j 0 (HLE.out j hjn)
          cases e'
          rw [Nat.zero_add] at cy
          go_wp2_with fail
          go_roundg gm
          case rel => exact ⟨j + 1, _, rfl, by go_num, by omega, HK2⟩
          case measure => omega
        · have c1 : ¬ (j : Int) < (ts.length : Int) := by omega
          have s3 : W2.cell? ⟨w.heap.size, 2, none⟩ = some (.slice (some ⟨g, 0, none⟩) ts.length cap) := (HBW.out.kept (HK11.out.trans HK2.out)).cell 2 (by simp)
          have dee : ((ts.length : Int) == (ts.length : Int)) = true := by simp
          go_wp2_with fail
          go_ret
          exact ⟨rfl, K11.trans HK2.out⟩
end Go.Proofs.YtcbpbidimocpjaaDoor
