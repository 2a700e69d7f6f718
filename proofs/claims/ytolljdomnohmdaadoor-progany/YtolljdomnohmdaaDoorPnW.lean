/- ProgAny, walked. -/
import Derived.Test.YtolljdomnohmdaaDoorRLo
import Derived.Test.YtolljdomnohmdaaDoorRSn
import Derived.Test.YtolljdomnohmdaaDoorRPs
import Derived.Test.YtolljdomnohmdaaDoorRMa
import Derived.Test.YtolljdomnohmdaaDoorOfA
import Derived.Test.YtolljdomnohmdaaDoorKnw
import Derived.Test.YtolljdomnohmdaaDoorRcY
namespace Go.Proofs.YtolljdomnohmdaaDoor
open Go.RowKit

theorem few_len2 {p : List OpD} (h : fewP p = true) : p.length ≤ 60 ∧ ∀ o ∈ p, o.cases.length ≤ 20 := by
  unfold fewP at h
  split at h
  · cases h
  · exact ⟨by omega, few_all p h⟩
theorem sameP_self : ∀ f : List OpD, sameP f f = true
  | [] => rfl
  | o :: r => by simp [sameP, sameD_self, sameP_self r]
theorem rlocks_as (a : Option Addr) (c : Nat) (p : List OpD) (w : World) (hA : AtP w a p) (hp : p.length ≤ 100000) :
    Calls Tryd.prog 23 #[.slice a p.length c] w fun e w' => ∃ va vc, e = .returned (.slice va (locksD p).length vc) ∧ AtI w' va (locksD p) ∧ Kept w w' := by
  refine (rlocks_any a c p w hA hp).mono ?_
  rintro e w' ⟨v, rfl, h, k⟩
  rcases irow_form h with ⟨rfl, h2⟩ | ⟨g, c', rfl, _⟩
  · refine ⟨none, 0, by rw [h2]; rfl, ?_, k⟩
    rw [h2]
    intro j x hj
    simp at hj
  · exact ⟨_, c', rfl, fun j x hj => ⟨g, 0, rfl, by rw [Nat.zero_add]; exact h.cell j x hj⟩, k⟩
theorem locksD_len (p : List OpD) : (locksD p).length ≤ p.length := by
  unfold locksD
  refine Nat.le_trans (compact_len _) ?_
  rw [List.length_mergeSort]
  exact lockNs_len p
/-- What a call tells in every later world. -/
structure TellB (f : FuncId) (args : Array Value) (w : World) (v : Value) : Prop where
  run : ∀ wx, Kept w wx → Calls Tryd.prog f args wx fun e w' => e = .returned v ∧ Kept wx w'
structure TellL (f : FuncId) (args : Array Value) (w : World) (l : List Int) : Prop where
  run : ∀ wx, Kept w wx → Calls Tryd.prog f args wx fun e w' => ∃ va vc, e = .returned (.slice va l.length vc) ∧ AtI w' va l ∧ Kept wx w'
set_option maxHeartbeats 8000000 in
set_option maxRecDepth 10000 in
theorem pany_law (a : Option Addr) (P : List OpD) (c : Nat) (lock at_ : Int) (lo : -9223372036854775808 ≤ at_) (hi : at_ ≤ 9223372036854775807) (w : World) (hr : Rdy w) (hP : AtP w a P) (hz : P.length ≤ c) :
    Calls Tryd.prog 3 #[.slice a P.length c, .int .i64 lock, .int .i64 at_] w fun e w' => e = .returned (.bool true) ∧ Kept w w' := by
  have HR : Hid (Rdy w) := hr
  have HP : Hid (AtP w a P) := hP
  have HZ : Hid (P.length ≤ c) := hz
  have HAT : Hid (-9223372036854775808 ≤ at_ ∧ at_ ≤ 9223372036854775807) := ⟨lo, hi⟩
  clear hr hP hz lo hi
  go_enter Tryd.func3, Tryd.ntmps3
  go_wp2_with fail
  refine (known_true w HR.out).mono ?_
  rintro e w1 ⟨rfl, K1⟩
  obtain ⟨fa, hfa⟩ : ∃ f, fewP P = f := ⟨_, rfl⟩
  have HFA : Hid (fewP P = fa) := hfa
  have hf1 := pfew_any a c P w1 (HP.out.kept K1)
  rw [hfa] at hf1
  clear hfa
  go_wp2_with fail
  refine hf1.mono ?_
  rintro e w2 ⟨rfl, T2⟩
  have K2 := K1.trans T2
  clear hf1 T2 K1
  cases fa with
  | false =>
    go_wp2_with fail
    go_ret
    exact ⟨rfl, K2⟩
  | true =>
  obtain ⟨hn60, hcs20⟩ := few_len2 HFA.out
  have HN : Hid (P.length ≤ 60) := hn60
  have HCS : Hid (∀ o ∈ P, o.cases.length ≤ 20) := hcs20
  have hto := toAll_any a c P w2 (HP.out.kept K2) (by omega) (fun o ho => by have := hcs20 o ho; omega)
  clear hn60 hcs20
  go_wp2_with fail
  refine hto.mono ?_
  rintro e w3 ⟨v, rfl, ⟨svs, R⟩, T3⟩
  obtain ⟨xa, xc, rfl, hxc, _, AX⟩ := R.view
  have HX : Hid (AtP w3 xa P) := AX
  have HXC : Hid (P.length ≤ xc) := hxc
  have K3 := K2.trans T3
  have HR3 : Hid (Rdy w3) := HR.out.kept K3
  have HP3 : Hid (AtP w3 a P) := HP.out.kept K3
  obtain ⟨q1, hq1⟩ : ∃ q, (checkP P).1 = q := ⟨_, rfl⟩
  obtain ⟨q2, hq2⟩ : ∃ q, (checkP P).2 = q := ⟨_, rfl⟩
  have HQ : Hid ((checkP P).1 = q1 ∧ (checkP P).2 = q2) := ⟨hq1, hq2⟩
  have hch := pcheck_any xa xc P w3 HR3.out AX (by have := HN.out; omega) (fun o ho => by have := HCS.out o ho; omega)
  rw [hq1, hq2] at hch
  clear hto R AX hxc K2 T3 hq1 hq2
  go_wp2_with fail
  refine hch.mono ?_
  rintro e w4 ⟨rfl, T4⟩
  have hck := rcheckP_any a c P w4 (HP3.out.kept T4) (fun o ho => by have := HCS.out o ho; omega)
  rw [HQ.out.1, HQ.out.2] at hck
  clear hch
  go_wp2_with fail
  refine hck.mono ?_
  rintro e w5 ⟨rfl, T5⟩
  have T45 := T4.trans T5
  have g1 : ((q1 : Int) != (q1 : Int)) = false := by simp
  have g2 : (q2 != q2) = false := by simp
  clear hck T4 T5
  by_cases hq : q2 = 0
  rotate_left
  · have hne : (q2 != 0) = true := by simpa using hq
    go_wp2_with fail
    go_ret
    exact ⟨rfl, K3.trans T45⟩
  subst hq
  have hk : checkP P = (0, 0) := checkP_0 HQ.out.2
  obtain ⟨h48, hc, hrun, f, hb, hfl⟩ := taken_prog hk
  have HFL : Hid (f.length ≤ 512) := hfl
  have hrf := rflat_any 3 0 0 P f a c w5 hb (HP3.out.kept T45) HZ.out hc (by omega) (by omega)
  have hst := steps_len hb hc
  obtain ⟨z1, hz1⟩ : ∃ z, matchD P at_ = z := ⟨_, rfl⟩
  obtain ⟨z2, hz2⟩ : ∃ z, costD P = z := ⟨_, rfl⟩
  obtain ⟨z4, hz4⟩ : ∃ z, anyW P = z := ⟨_, rfl⟩
  obtain ⟨z5, hz5⟩ : ∃ z, secGo lock 0 0 f = z := ⟨_, rfl⟩
  obtain ⟨z6, hz6⟩ : ∃ z, locksD P = z := ⟨_, rfl⟩
  have HLL : Hid (z6.length ≤ 100000) := by show _ ≤ _; rw [← hz6]; exact Nat.le_trans (locksD_len P) (by omega)
  have B12 : Hid (TellB 12 #[.slice xa P.length xc, .int .i64 at_] w3 (.int .i64 z1)) := ⟨fun wx kx => by rw [← hz1]; exact (match_any xa xc P at_ wx (HX.out.kept kx) (by omega) HAT.out).mono (by rintro e w' ⟨rfl, rfl⟩; exact ⟨rfl, Kept.refl _⟩)⟩
  have B13 : Hid (TellB 13 #[.slice a P.length c, .int .i64 at_] w3 (.int .i64 z1)) := ⟨fun wx kx => by rw [← hz1]; exact (rmatch_any a c P at_ wx (HP3.out.kept kx) (by omega) HAT.out).mono (by rintro e w' ⟨rfl, rfl⟩; exact ⟨rfl, Kept.refl _⟩)⟩
  have B14 : Hid (TellB 14 #[.slice xa P.length xc] w3 (.int .i64 z2)) := ⟨fun wx kx => by rw [← hz2]; exact cost_any xa xc P wx (HX.out.kept kx) (by omega) hc hrun⟩
  have B15 : Hid (TellB 15 #[.slice a P.length c] w3 (.int .i64 z2)) := ⟨fun wx kx => by rw [← hz2]; exact rcost_any a c P wx (HP3.out.kept kx) HZ.out hk⟩
  have B16 : Hid (TellB 16 #[.slice xa P.length xc] w3 (.int .i64 (f.length : Int))) := ⟨fun wx kx => by rw [← hst]; exact steps_any xa xc P wx (HX.out.kept kx) (by omega) hc hrun⟩
  have B17 : Hid (TellB 17 #[.slice xa P.length xc] w3 (.bool z4)) := ⟨fun wx kx => by rw [← hz4]; exact pwaits_any xa xc P wx (HR3.out.kept kx) (HX.out.kept kx) (by omega)⟩
  have B18 : Hid (TellB 18 #[.slice a P.length c] w3 (.bool z4)) := ⟨fun wx kx => by rw [← hz4]; exact rpwaits_any a c P wx (HP3.out.kept kx) (by omega)⟩
  have B19 : Hid (TellB 19 #[.slice xa P.length xc, .int .i64 lock] w3 (.int .i64 z5)) := ⟨fun wx kx => by rw [← hz5]; exact section_any xa xc P f lock wx (HR3.out.kept kx) (HX.out.kept kx) HXC.out hk hb⟩
  have B20 : Hid (TellB 20 #[.slice a P.length c, .int .i64 lock] w3 (.int .i64 z5)) := ⟨fun wx kx => by rw [← hz5]; exact rsection_any a c P f lock wx (HP3.out.kept kx) HZ.out hk hb⟩
  have L22 : Hid (TellL 22 #[.slice xa P.length xc] w3 z6) := ⟨fun wx kx => by rw [← hz6]; exact locks_any xa xc P wx (HX.out.kept kx) (by omega)⟩
  have L23 : Hid (TellL 23 #[.slice a P.length c] w3 z6) := ⟨fun wx kx => by rw [← hz6]; exact rlocks_as a c P wx (HP3.out.kept kx) (by omega)⟩
  have HFT : Hid (∀ wx, Kept w3 wx → Calls Tryd.prog 26 #[.slice xa P.length xc] wx fun e w' => ∃ v, e = .returned v ∧ (∃ svs, ORow wx.heap.size w' v f svs) ∧ Kept wx w') := fun wx kx => flat_any xa xc P f wx (HR3.out.kept kx) (HX.out.kept kx) HXC.out hk hb
  have HFC : Hid (∀ o ∈ f, o.cases.length ≤ 20) := fun o ho => HCS.out o (bal_mem hb o ho).1
  clear hz1 hz2 hz4 hz5 hz6 hst hk h48 hc hrun hb hfl HQ
  go_wp2_with fail
  refine hrf.mono ?_
  rintro e w6 ⟨v, rfl, RR6, T6⟩
  obtain ⟨fa, fc, rfl, _, AF⟩ := RR6.view (HP3.out.kept T45) T6
  have HF6 : Hid (AtP w6 fa f) := AF
  have M6 := T45.trans T6
  have g3 : (z1 != z1) = false := by simp
  have g4 : (z2 != z2) = false := by simp
  have g5 : ((f.length : Int) != (f.length : Int)) = false := by simp
  have g6 : (z4 != z4) = false := by simp
  have g7 : (z5 != z5) = false := by simp
  have HM6 : Hid (Kept w3 w6) := M6
  have N6 : Kept w6 w6 := Kept.refl w6
  clear hrf RR6 AF T6 T45 M6
  go_wp2_with fail
  refine (B12.out.run _ (HM6.out.trans N6)).mono ?_
  rintro e w7 ⟨rfl, T7⟩
  have N7 := N6.trans T7
  clear T7 N6
  go_wp2_with fail
  refine (B13.out.run _ (HM6.out.trans N7)).mono ?_
  rintro e w8 ⟨rfl, T8⟩
  have N8 := N7.trans T8
  clear T8 N7
  go_wp2_with fail
  refine (B14.out.run _ (HM6.out.trans N8)).mono ?_
  rintro e w9 ⟨rfl, T9⟩
  have N9 := N8.trans T9
  clear T9 N8
  go_wp2_with fail
  refine (B15.out.run _ (HM6.out.trans N9)).mono ?_
  rintro e w10 ⟨rfl, T10⟩
  have N10 := N9.trans T10
  clear T10 N9
  go_wp2_with fail
  refine (B16.out.run _ (HM6.out.trans N10)).mono ?_
  rintro e w11 ⟨rfl, T11⟩
  have N11 := N10.trans T11
  clear T11 N10
  go_wp2_with fail
  refine (B17.out.run _ (HM6.out.trans N11)).mono ?_
  rintro e w12 ⟨rfl, T12⟩
  have N12 := N11.trans T12
  clear T12 N11
  go_wp2_with fail
  refine (B18.out.run _ (HM6.out.trans N12)).mono ?_
  rintro e w13 ⟨rfl, T13⟩
  have N13 := N12.trans T13
  clear T13 N12
  go_wp2_with fail
  refine (B19.out.run _ (HM6.out.trans N13)).mono ?_
  rintro e w14 ⟨rfl, T14⟩
  have N14 := N13.trans T14
  clear T14 N13
  go_wp2_with fail
  refine (B20.out.run _ (HM6.out.trans N14)).mono ?_
  rintro e w15 ⟨rfl, T15⟩
  have N15 := N14.trans T15
  clear T15 N14
  go_wp2_with fail
  refine (L22.out.run _ (HM6.out.trans N15)).mono ?_
  rintro e wa ⟨la, lc, rfl, LA, Ta⟩
  have Na := N15.trans Ta
  go_wp2_with fail
  refine (L23.out.run _ (HM6.out.trans Na)).mono ?_
  rintro e wb ⟨lb, ld, rfl, LB, Tb⟩
  have Nb := Na.trans Tb
  have hin : Calls Tryd.prog 21 #[.slice la z6.length lc, .slice lb z6.length ld] wb fun e w' => e = .returned (.bool true) ∧ Kept wb w' := by
    refine (ints_any la lb lc ld z6 z6 wb (LA.kept Tb) LB HLL.out HLL.out).mono ?_
    rintro e w' ⟨rfl, k⟩
    exact ⟨by simp, k⟩
  clear LA LB Ta Tb N15 Na
  go_wp2_with fail
  refine hin.mono ?_
  rintro e wc ⟨rfl, Tc⟩
  have Nc := Nb.trans Tc
  clear hin Nb Tc
  go_wp2_with fail
  refine (HFT.out _ (HM6.out.trans Nc)).mono ?_
  rintro e wd ⟨v, rfl, ⟨svs, Rd⟩, Td⟩
  obtain ⟨da, dc, rfl, _, _, AD⟩ := Rd.view
  have Nd := Nc.trans Td
  have hof := ofAll_any da dc f wd AD (by have := HFL.out; omega) (fun o ho => by have := HFC.out o ho; omega)
  clear Rd AD Td Nc
  go_wp2_with fail
  refine hof.mono ?_
  rintro e we ⟨v, rfl, ⟨svs', Re⟩, Te⟩
  obtain ⟨ea, ec, rfl, _, _, AE⟩ := Re.view
  have Ne := Nd.trans Te
  have hsa : Calls Tryd.prog 24 #[.slice ea f.length ec, .slice fa f.length fc] we fun e w' => e = .returned (.bool true) ∧ Kept we w' := by
    have h := rsameP_any ea fa ec fc f f we AE (HF6.out.kept Ne) (by have := HFL.out; omega) (fun o ho => by have := HFC.out o ho; omega)
    rw [sameP_self] at h
    exact h
  clear Re AE Te Nd hof
  go_wp2_with fail
  refine hsa.mono ?_
  rintro e wf ⟨rfl, Tf⟩
  go_wp2_with fail
  go_ret
  exact ⟨rfl, K3.trans (HM6.out.trans (Ne.trans Tf))⟩
end Go.Proofs.YtolljdomnohmdaaDoor
