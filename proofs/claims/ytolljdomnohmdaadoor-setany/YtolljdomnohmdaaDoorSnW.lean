/- SetAny, walked. -/
import Derived.Test.YtolljdomnohmdaaDoorRSz
import Derived.Test.YtolljdomnohmdaaDoorSTo
import Derived.Test.YtolljdomnohmdaaDoorStA
import Derived.Test.YtolljdomnohmdaaDoorSkn
namespace Go.Proofs.YtolljdomnohmdaaDoor
open Go.RowKit

theorem taskE_prog {L nc : Int} {ts : List TaskD} {i : Nat} {t : TaskD} (h : taskE L nc ts i t = 0) : checkP t.prog = (0, 0) := by
  refine checkP_0 ?_
  unfold taskE at h
  split at h
  · split at h
    · simp at h
    · split at h
      · split at h
        · assumption
        · assumption
      · simp at h
  · simp at h
theorem tasksGo_prog (L nc : Int) (ts : List TaskD) : ∀ (l : List TaskD) (i : Nat), (tasksGo L nc ts i l).2 = 0 → ∀ t ∈ l, checkP t.prog = (0, 0)
  | [], _, _, t, ht => by cases ht
  | x :: r, i, h, t, ht => by
    rw [tasksGo] at h
    split at h
    · rename_i hx
      rcases List.mem_cons.1 ht with rfl | ht
      · exact taskE_prog hx
      · exact tasksGo_prog L nc ts r (i + 1) h t ht
    · rename_i hx
      exact absurd h hx
theorem checkS_prog {L : Int} {cs : List ChanD} {ts : List TaskD} (h : (checkS L cs ts).2 = 0) : ∀ t ∈ ts, checkP t.prog = (0, 0) := by
  unfold checkS at h
  split at h
  · simp at h
  · split at h
    · simp at h
    · split at h
      · exact tasksGo_prog _ _ _ _ _ h
      · rename_i hx
        exact absurd h hx
section
variable {P : Program} {ops : Array Oper} {Q : Exit → Act → World → Prop} {md : Region.Mode} {S : World → Prop}
theorem oper_calls {o : Oper} {a : Act} {w : World} {K : Act → World → Prop} {f : FuncId} {vals : Array Value} (hx : (execOp a.eval o).run P w = .ok (.enter f vals) w) (h : Calls P f vals w fun e w' => ∃ v, e = .returned v ∧ K (a.put o.dst v) w') : Oper.wp P o a w K Q := by
  unfold Oper.wp
  rw [hx, Oper.upon_enter]
  refine h.mono ?_
  rintro e w' ⟨v, rfl, k⟩
  exact k
theorem act_eq {P : Program} {c : Code} {Q : Exit → Act → World → Prop} {a b : Act} {w : World} (h : a = b) (hb : Code.wp P c Q b w) : Code.wp P c Q a w := by
  rw [h]
  exact hb
/-- Number i alone may come up, and calls. -/
theorem wpAnyH_call {i : Nat} {oi : Oper} {fuel : Nat} {listed : Array Bool} {a : Act} {w : World} {f : FuncId} {vals : Array Value} (hi : ops[i]? = some oi) (hr : Region.ready md ops listed = [i]) (hg : Region.wanted oi (yielded ops a.tmps) = true) (hx : (execOp a.eval oi).run P w = .ok (.enter f vals) w)
    (h : Calls P f vals w fun e w' => ∃ v, e = .returned v ∧ S w' ∧ wpAnyH P md ops Q S fuel (listed.setIfInBounds i true) (a.put oi.dst v) w') : wpAnyH P md ops Q S (fuel + 1) listed a w := by
  refine wpAnyH_all hr (by simp) (fun j hj => ?_)
  obtain rfl := List.mem_singleton.1 hj
  refine wpOp_step hi (fun K' hK => ?_)
  rw [if_pos hg]
  refine oper_calls hx (h.mono ?_)
  rintro e w' ⟨v, rfl, h1, h2⟩
  exact ⟨v, rfl, hK _ _ ⟨h1, h2⟩⟩
theorem exec_bin {ρ : Operand → Value} {o : Oper} {op : BinOp} {t t2 : TypeId} {x y : Operand} {u v r : Value} {w : World} (ho : o.op = .binOp op t x y t2) (hx : ρ x = u) (hy : ρ y = v) (h1 : (eqGuard op t x y u v).run P w = .ok () w) (h2 : (binOp op t u v).run P w = .ok r w) : (execOp ρ o).run P w = .ok (.value r) w := by
  unfold execOp
  rw [ho]
  simp [hx, hy, Result.andThen, h1, h2]
theorem exec_load {ρ : Operand → Value} {o : Oper} {t : TypeId} {x : Operand} {u r : Value} {w : World} (ho : o.op = .load t x) (hx : ρ x = u) (h1 : (Instr.loadAt t u).run P w = .ok r w) : (execOp ρ o).run P w = .ok (.value r) w := by
  unfold execOp
  rw [ho]
  simp [hx, Result.andThen, h1]
end
def SW (L L' : Int) (ca ca' ta ta' xa ya : Option Addr) (cc cc' tc tc' xc yc nc nc' nt nt' b0 xb : Nat) (w' : World) : Prop := w'.cell? ⟨b0, 0, none⟩ = some (.int .i64 L) ∧ w'.cell? ⟨b0, 1, none⟩ = some (.slice ca nc cc) ∧ w'.cell? ⟨b0, 2, none⟩ = some (.slice ta nt tc) ∧ w'.cell? ⟨b0 + 1, 0, none⟩ = some (.int .i64 L') ∧ w'.cell? ⟨b0 + 1, 1, none⟩ = some (.slice ca' nc' cc') ∧ w'.cell? ⟨b0 + 1, 2, none⟩ = some (.slice ta' nt' tc') ∧ w'.cell? ⟨xb, 0, none⟩ = some (.int .i64 L) ∧ w'.cell? ⟨xb, 1, none⟩ = some (.slice xa nc xc) ∧ w'.cell? ⟨xb, 2, none⟩ = some (.slice ya nt yc)
/-- What a call tells of one task. -/
structure NeedB (f : FuncId) (args : Array Value) (w : World) (z : Int) : Prop where
  run : ∀ wx, Kept w wx → Calls Tryd.prog f args wx fun e w' => e = .returned (.int .i64 z) ∧ Kept wx w'
/-- What To tells of a set. -/
structure ToB (w : World) (L : Int) (cs : List ChanD) (ts : List TaskD) (ca : Option Addr) (cc : Nat) (ta : Option Addr) (tc : Nat) : Prop where
  run : Calls Tryd.prog 29 #[.agg #[.int .i64 L, .slice ca cs.length cc, .slice ta ts.length tc]] w fun e w' => ∃ ua uc va vc, e = .returned (.agg #[.int .i64 L, .slice ua cs.length uc, .slice va ts.length vc]) ∧ AtH w' ua cs ∧ AtT w' va ts ∧ Kept w w'
set_option maxHeartbeats 8000000 in
set_option maxRecDepth 20000 in
theorem any_law (L L' : Int) (ca ca' ta ta' : Option Addr) (cc cc' tc tc' : Nat) (cs cs' : List ChanD) (ts ts' : List TaskD) (nm : List UInt8) (w : World) (hr : Rdy w) (hH : AtH w ca cs) (hH' : AtH w ca' cs') (hA : AtT w ta ts) (hA' : AtT w ta' ts') :
    Calls Tryd.prog 5 #[.agg #[.int .i64 L, .slice ca cs.length cc, .slice ta ts.length tc], .agg #[.int .i64 L', .slice ca' cs'.length cc', .slice ta' ts'.length tc'], .string (B nm)] w fun e w' => e = .returned (.bool true) ∧ Kept w w' := by
  have HR : Hid (Rdy w) := hr
  have HH : Hid (AtH w ca cs) := hH
  have HH' : Hid (AtH w ca' cs') := hH'
  have HA : Hid (AtT w ta ts) := hA
  have HA' : Hid (AtT w ta' ts') := hA'
  clear hr hH hH' hA hA'
  have K2 : Kept w ((w.alloc (.cells #[.int .i64 L, .slice ca cs.length cc, .slice ta ts.length tc] 53)).alloc (.cells #[.int .i64 L', .slice ca' cs'.length cc', .slice ta' ts'.length tc'] 53)) := ((Kept.refl w).alloc _).alloc _
  have HB1 : Hid (Box w.heap.size ((w.alloc (.cells #[.int .i64 L, .slice ca cs.length cc, .slice ta ts.length tc] 53)).alloc (.cells #[.int .i64 L', .slice ca' cs'.length cc', .slice ta' ts'.length tc'] 53)) 53 w.heap.size [.int .i64 L, .slice ca cs.length cc, .slice ta ts.length tc]) := (box_new w.heap.size w 53 [.int .i64 L, .slice ca cs.length cc, .slice ta ts.length tc] (Nat.le_refl _) (by simp)).kept ((Kept.refl _).alloc _)
  have HB2 : Hid (Box w.heap.size ((w.alloc (.cells #[.int .i64 L, .slice ca cs.length cc, .slice ta ts.length tc] 53)).alloc (.cells #[.int .i64 L', .slice ca' cs'.length cc', .slice ta' ts'.length tc'] 53)) 53 (w.heap.size + 1) [.int .i64 L', .slice ca' cs'.length cc', .slice ta' ts'.length tc']) := by
    have h := box_new w.heap.size (w.alloc (.cells #[.int .i64 L, .slice ca cs.length cc, .slice ta ts.length tc] 53)) 53 [.int .i64 L', .slice ca' cs'.length cc', .slice ta' ts'.length tc'] (by simp) (by simp)
    rw [show (w.alloc (.cells #[.int .i64 L, .slice ca cs.length cc, .slice ta ts.length tc] 53)).heap.size = w.heap.size + 1 by simp] at h
    exact h
  have hk := sknown_true ((w.alloc (.cells #[.int .i64 L, .slice ca cs.length cc, .slice ta ts.length tc] 53)).alloc (.cells #[.int .i64 L', .slice ca' cs'.length cc', .slice ta' ts'.length tc'] 53)) (HR.out.kept K2)
  have HSZ : Hid ((B nm).size = nm.length) := B_size nm
  go_enter Tryd.func5, Tryd.ntmps5
  go_wp2_with fail
  refine hk.mono ?_
  rintro e w1 ⟨rfl, T1⟩
  have K1 := K2.trans T1
  have HC1 : Hid (Box w.heap.size w1 53 w.heap.size [.int .i64 L, .slice ca cs.length cc, .slice ta ts.length tc]) := HB1.out.kept T1
  have HC2 : Hid (Box w.heap.size w1 53 (w.heap.size + 1) [.int .i64 L', .slice ca' cs'.length cc', .slice ta' ts'.length tc']) := HB2.out.kept T1
  clear hk HB1 HB2 T1 K2
  have s0 : w1.cell? ⟨w.heap.size, 0, none⟩ = some (.int .i64 L) := HC1.out.cell 0 (by simp)
  have s1 : w1.cell? ⟨w.heap.size, 1, none⟩ = some (.slice ca cs.length cc) := HC1.out.cell 1 (by simp)
  have s2 : w1.cell? ⟨w.heap.size, 2, none⟩ = some (.slice ta ts.length tc) := HC1.out.cell 2 (by simp)
  obtain ⟨fa, hfa⟩ : ∃ f, fewS cs ts = f := ⟨_, rfl⟩
  obtain ⟨fb, hfb⟩ : ∃ f, fewS cs' ts' = f := ⟨_, rfl⟩
  have HFA : Hid (fewS cs ts = fa) := hfa
  have HFB : Hid (fewS cs' ts' = fb) := hfb
  have hf1 := sfew_any L ca ta cc tc cs ts w1 (HA.out.kept K1)
  rw [hfa] at hf1
  clear hfa hfb
  go_wp2_with fail
  refine hf1.mono ?_
  rintro e w2 ⟨rfl, T2⟩
  have K2 := K1.trans T2
  have HD1 : Hid (Box w.heap.size w2 53 w.heap.size [.int .i64 L, .slice ca cs.length cc, .slice ta ts.length tc]) := HC1.out.kept T2
  have HD2 : Hid (Box w.heap.size w2 53 (w.heap.size + 1) [.int .i64 L', .slice ca' cs'.length cc', .slice ta' ts'.length tc']) := HC2.out.kept T2
  clear hf1 HC1 HC2 T2 K1 s0 s1 s2
  cases fa with
  | false =>
    go_wp2_with fail
    go_ret
    exact ⟨rfl, K2⟩
  | true =>
  have r0 : w2.cell? ⟨w.heap.size + 1, 0, none⟩ = some (.int .i64 L') := HD2.out.cell 0 (by simp)
  have r1 : w2.cell? ⟨w.heap.size + 1, 1, none⟩ = some (.slice ca' cs'.length cc') := HD2.out.cell 1 (by simp)
  have r2 : w2.cell? ⟨w.heap.size + 1, 2, none⟩ = some (.slice ta' ts'.length tc') := HD2.out.cell 2 (by simp)
  have hf2 := sfew_any L' ca' ta' cc' tc' cs' ts' w2 (HA'.out.kept K2)
  rw [HFB.out] at hf2
  go_wp2_with fail
  refine hf2.mono ?_
  rintro e w3 ⟨rfl, T3⟩
  have K3 := K2.trans T3
  have HE1 : Hid (Box w.heap.size w3 53 w.heap.size [.int .i64 L, .slice ca cs.length cc, .slice ta ts.length tc]) := HD1.out.kept T3
  have HE2 : Hid (Box w.heap.size w3 53 (w.heap.size + 1) [.int .i64 L', .slice ca' cs'.length cc', .slice ta' ts'.length tc']) := HD2.out.kept T3
  clear hf2 HD1 HD2 T3 K2 r0 r1 r2
  cases fb with
  | false =>
    go_wp2_with fail
    go_ret
    exact ⟨rfl, K3⟩
  | true =>
  by_cases h50 : ((B nm).size : Int) > 50
  · go_wp2_with fail
    go_ret
    exact ⟨rfl, K3⟩
  obtain ⟨hn20, hc20, hok⟩ := fewS_ok HFA.out
  obtain ⟨hn20', hc20', hok'⟩ := fewS_ok HFB.out
  have HOK : Hid (TsOk ts) := hok
  have HOK' : Hid (TsOk ts') := hok'
  have s0 : w3.cell? ⟨w.heap.size, 0, none⟩ = some (.int .i64 L) := HE1.out.cell 0 (by simp)
  have s1 : w3.cell? ⟨w.heap.size, 1, none⟩ = some (.slice ca cs.length cc) := HE1.out.cell 1 (by simp)
  have s2 : w3.cell? ⟨w.heap.size, 2, none⟩ = some (.slice ta ts.length tc) := HE1.out.cell 2 (by simp)
  have hto := sto_any L ca ta cc tc cs ts w3 (HH.out.kept K3) (HA.out.kept K3) hok (by omega) (by omega)
  clear HFA HFB hok hok'
  go_wp2_with fail
  refine hto.mono ?_
  rintro e w4 ⟨xa, xc, ya, yc, rfl, XH, XT, -, T4⟩
  have TA := (Kept.refl w4).alloc (.cells #[.int .i64 L, .slice xa cs.length xc, .slice ya ts.length yc] 58)
  have HBX : Hid (Box w.heap.size (w4.alloc (.cells #[.int .i64 L, .slice xa cs.length xc, .slice ya ts.length yc] 58)) 58 w4.heap.size [.int .i64 L, .slice xa cs.length xc, .slice ya ts.length yc]) := box_new w.heap.size w4 58 [.int .i64 L, .slice xa cs.length xc, .slice ya ts.length yc] ((K3.trans T4).size) (by simp)
  have HB1 : Hid (Box w.heap.size (w4.alloc (.cells #[.int .i64 L, .slice xa cs.length xc, .slice ya ts.length yc] 58)) 53 w.heap.size [.int .i64 L, .slice ca cs.length cc, .slice ta ts.length tc]) := (HE1.out.kept T4).kept TA
  have HB2 : Hid (Box w.heap.size (w4.alloc (.cells #[.int .i64 L, .slice xa cs.length xc, .slice ya ts.length yc] 58)) 53 (w.heap.size + 1) [.int .i64 L', .slice ca' cs'.length cc', .slice ta' ts'.length tc']) := (HE2.out.kept T4).kept TA
  have HXH : Hid (AtH (w4.alloc (.cells #[.int .i64 L, .slice xa cs.length xc, .slice ya ts.length yc] 58)) xa cs) := XH.kept TA
  have HXT : Hid (AtT (w4.alloc (.cells #[.int .i64 L, .slice xa cs.length xc, .slice ya ts.length yc] 58)) ya ts) := XT.kept TA
  have KA : Kept w (w4.alloc (.cells #[.int .i64 L, .slice xa cs.length xc, .slice ya ts.length yc] 58)) := (K3.trans T4).trans TA
  have hch := scheck_any L xa ya xc yc cs ts (w4.alloc (.cells #[.int .i64 L, .slice xa cs.length xc, .slice ya ts.length yc] 58)) (HR.out.kept KA) HXH.out HXT.out HOK.out (by omega) (by omega)
  obtain ⟨q1, hq1⟩ : ∃ q, (checkS L cs ts).1 = q := ⟨_, rfl⟩
  obtain ⟨q2, hq2⟩ : ∃ q, (checkS L cs ts).2 = q := ⟨_, rfl⟩
  rw [hq1, hq2] at hch
  have HQ1 : Hid ((checkS L cs ts).1 = q1) := hq1
  have HQ2 : Hid ((checkS L cs ts).2 = q2) := hq2
  clear s0 s1 s2 hto XH XT TA T4 K3 HE1 HE2 hq1 hq2
  obtain ⟨xb, hxb⟩ : ∃ xb, w4.heap.size = xb := ⟨_, rfl⟩
  rw [hxb] at HBX
  go_wp2_with fail
  generalize (w4.alloc (.cells #[.int .i64 L, .slice xa cs.length xc, .slice ya ts.length yc] 58)) = wA at *
  refine hch.mono ?_
  rintro e w5 ⟨rfl, T5⟩
  have K5 := KA.trans T5
  have hck := rcset_any L ca ta cc tc cs ts w5 (HH.out.kept K5) (HA.out.kept K5) HOK.out
  rw [HQ1.out, HQ2.out] at hck
  have s0 : w5.cell? ⟨w.heap.size, 0, none⟩ = some (.int .i64 L) := (HB1.out.kept T5).cell 0 (by simp)
  have s1 : w5.cell? ⟨w.heap.size, 1, none⟩ = some (.slice ca cs.length cc) := (HB1.out.kept T5).cell 1 (by simp)
  have s2 : w5.cell? ⟨w.heap.size, 2, none⟩ = some (.slice ta ts.length tc) := (HB1.out.kept T5).cell 2 (by simp)
  clear hch
  go_wp2_with fail
  refine hck.mono ?_
  rintro e w6 ⟨rfl, T6⟩
  have T56 := T5.trans T6
  have hfi := find_any L xa ya xc yc cs.length ts nm w6 (HXT.out.kept T56) (by omega)
  obtain ⟨p1, hp1⟩ : ∃ q, (findGo nm 0 ts).1 = q := ⟨_, rfl⟩
  obtain ⟨p2, hp2⟩ : ∃ q, (findGo nm 0 ts).2 = q := ⟨_, rfl⟩
  rw [hp1, hp2] at hfi
  have HP1 : Hid ((findGo nm 0 ts).1 = p1) := hp1
  have HP2 : Hid ((findGo nm 0 ts).2 = p2) := hp2
  clear s0 s1 s2 hck hp1 hp2
  have x0 : w6.cell? ⟨xb, 0, none⟩ = some (.int .i64 L) := (HBX.out.kept T56).cell 0 (by simp)
  have x1 : w6.cell? ⟨xb, 1, none⟩ = some (.slice xa cs.length xc) := (HBX.out.kept T56).cell 1 (by simp)
  have x2 : w6.cell? ⟨xb, 2, none⟩ = some (.slice ya ts.length yc) := (HBX.out.kept T56).cell 2 (by simp)
  go_wp2_with fail
  refine hfi.mono ?_
  rintro e w7 ⟨rfl, T7⟩
  have T57 := T56.trans T7
  have K7 := KA.trans T57
  have hrf := rfind_any L ca ta cc tc cs.length ts nm w7 (HA.out.kept K7) (by omega)
  rw [HP1.out, HP2.out] at hrf
  clear x0 x1 x2 hfi
  have s0 : w7.cell? ⟨w.heap.size, 0, none⟩ = some (.int .i64 L) := (HB1.out.kept T57).cell 0 (by simp)
  have s1 : w7.cell? ⟨w.heap.size, 1, none⟩ = some (.slice ca cs.length cc) := (HB1.out.kept T57).cell 1 (by simp)
  have s2 : w7.cell? ⟨w.heap.size, 2, none⟩ = some (.slice ta ts.length tc) := (HB1.out.kept T57).cell 2 (by simp)
  go_wp2_with fail
  refine hrf.mono ?_
  rintro e w8 ⟨rfl, T8⟩
  have T58 := T57.trans T8
  have K8 := KA.trans T58
  clear s0 s1 s2 hrf HP1 HP2 T57 T56 T8 T7 T6 T5 K7 K5
  have HC1 : Hid (Box w.heap.size w8 53 w.heap.size [.int .i64 L, .slice ca cs.length cc, .slice ta ts.length tc]) := HB1.out.kept T58
  have HC2 : Hid (Box w.heap.size w8 53 (w.heap.size + 1) [.int .i64 L', .slice ca' cs'.length cc', .slice ta' ts'.length tc']) := HB2.out.kept T58
  have HCX : Hid (Box w.heap.size w8 58 xb [.int .i64 L, .slice xa cs.length xc, .slice ya ts.length yc]) := HBX.out.kept T58
  have HYH : Hid (AtH w8 xa cs) := HXH.out.kept T58
  have HYT : Hid (AtT w8 ya ts) := HXT.out.kept T58
  have HK8 : Hid (Kept w w8) := K8
  clear HB1 HB2 HBX HXH HXT T58 KA K8
  have a0 : w8.cell? ⟨w.heap.size, 0, none⟩ = some (.int .i64 L) := HC1.out.cell 0 (by simp)
  have a1 : w8.cell? ⟨w.heap.size, 1, none⟩ = some (.slice ca cs.length cc) := HC1.out.cell 1 (by simp)
  have a2 : w8.cell? ⟨w.heap.size, 2, none⟩ = some (.slice ta ts.length tc) := HC1.out.cell 2 (by simp)
  have b0 : w8.cell? ⟨w.heap.size + 1, 0, none⟩ = some (.int .i64 L') := HC2.out.cell 0 (by simp)
  have b1 : w8.cell? ⟨w.heap.size + 1, 1, none⟩ = some (.slice ca' cs'.length cc') := HC2.out.cell 1 (by simp)
  have b2 : w8.cell? ⟨w.heap.size + 1, 2, none⟩ = some (.slice ta' ts'.length tc') := HC2.out.cell 2 (by simp)
  have x0 : w8.cell? ⟨xb, 0, none⟩ = some (.int .i64 L) := HCX.out.cell 0 (by simp)
  have x1 : w8.cell? ⟨xb, 1, none⟩ = some (.slice xa cs.length xc) := HCX.out.cell 1 (by simp)
  have x2 : w8.cell? ⟨xb, 2, none⟩ = some (.slice ya ts.length yc) := HCX.out.cell 2 (by simp)
  obtain ⟨zs, hzs⟩ : ∃ z, sameS L cs ts L' cs' ts' = z := ⟨_, rfl⟩
  obtain ⟨zw, hzw⟩ : ∃ z, anyT ts = z := ⟨_, rfl⟩
  have HZS : Hid (sameS L cs ts L' cs' ts' = zs) := hzs
  have HZW : Hid (anyT ts = zw) := hzw
  have hTo : Hid (ToB w8.drew L' cs' ts' ca' cc' ta' tc') := by
    have h := sto_any L' ca' ta' cc' tc' cs' ts' w8.drew (HH'.out.kept HK8.out.drew) (HA'.out.kept HK8.out.drew) HOK'.out (by omega) (by omega)
    refine ⟨h.mono ?_⟩
    rintro e w' ⟨a1, a2, a3, a4, h1, h2, h3, _, h5⟩
    exact ⟨a1, a2, a3, a4, h1, h2, h3, h5⟩
  clear hzs hzw
  go_wp2_with fail
  rename_i KZ hkz
  have hS8 : SW L L' ca ca' ta ta' xa ya cc cc' tc tc' xc yc cs.length cs'.length ts.length ts'.length w.heap.size xb w8.drew := ⟨a0, a1, a2, b0, b1, b2, x0, x1, x2⟩
  refine wp_region_held_drew (S := SW L L' ca ca' ta ta' xa ya cc cc' tc tc' xc yc cs.length cs'.length ts.length ts'.length w.heap.size xb) (by kernel_rfl) hS8 (fun _ => ?_)
  refine wpAnyH_take (i := 0) (v := .int .i64 (q1 : Int)) rfl (by kernel_rfl) (by kernel_rfl) (by kernel_rfl) (fun _ _ _ h => h) (.inl ⟨by kernel_rfl, fun wx hx => by kernel_rfl⟩) hS8 ?_
  refine wpAnyH_take (i := 1) (v := .int .i64 (q1 : Int)) rfl (by kernel_rfl) (by kernel_rfl) (by kernel_rfl) (fun _ _ _ h => h) (.inl ⟨by kernel_rfl, fun wx hx => by kernel_rfl⟩) hS8 ?_
  refine wpAnyH_take (i := 2) (v := .bool false) rfl (by kernel_rfl) (by kernel_rfl) (by kernel_rfl) (fun _ _ _ h => h) (.inl ⟨by kernel_rfl, fun wx hx => exec_bin (u := .int .i64 (q1 : Int)) (v := .int .i64 (q1 : Int)) (r := .bool false) rfl (by kernel_rfl) (by kernel_rfl) (by simp [go_sem]) (by simp [go_sem])⟩) hS8 ?_
  refine wpAnyH_take (i := 3) (v := .bool false) rfl (by kernel_rfl) (by kernel_rfl) (by kernel_rfl) (fun _ _ _ h => h) (.inl ⟨by kernel_rfl, fun wx hx => by kernel_rfl⟩) hS8 ?_
  refine wpAnyH_take (i := 4) (v := .int .i64 q2) rfl (by kernel_rfl) (by kernel_rfl) (by kernel_rfl) (fun _ _ _ h => h) (.inl ⟨by kernel_rfl, fun wx hx => by kernel_rfl⟩) hS8 ?_
  refine wpAnyH_take (i := 5) (v := .int .i64 q2) rfl (by kernel_rfl) (by kernel_rfl) (by kernel_rfl) (fun _ _ _ h => h) (.inl ⟨by kernel_rfl, fun wx hx => by kernel_rfl⟩) hS8 ?_
  refine wpAnyH_take (i := 6) (v := .bool false) rfl (by kernel_rfl) (by kernel_rfl) (by kernel_rfl) (fun _ _ _ h => h) (.inl ⟨by kernel_rfl, fun wx hx => exec_bin (u := .int .i64 q2) (v := .int .i64 q2) (r := .bool false) rfl (by kernel_rfl) (by kernel_rfl) (by simp [go_sem]) (by simp [go_sem])⟩) hS8 ?_
  refine wpAnyH_take (i := 7) (v := .bool false) rfl (by kernel_rfl) (by kernel_rfl) (by kernel_rfl) (fun _ _ _ h => h) (.inl ⟨by kernel_rfl, fun wx hx => by kernel_rfl⟩) hS8 ?_
  refine wpAnyH_take (i := 8) (v := .bool false) rfl (by kernel_rfl) (by kernel_rfl) (by kernel_rfl) (fun _ _ _ h => h) (.inl ⟨by kernel_rfl, fun wx hx => by kernel_rfl⟩) hS8 ?_
  refine wpAnyH_take (i := 9) (v := .int .i64 (p1 : Int)) rfl (by kernel_rfl) (by kernel_rfl) (by kernel_rfl) (fun _ _ _ h => h) (.inl ⟨by kernel_rfl, fun wx hx => by kernel_rfl⟩) hS8 ?_
  refine wpAnyH_take (i := 10) (v := .int .i64 (p1 : Int)) rfl (by kernel_rfl) (by kernel_rfl) (by kernel_rfl) (fun _ _ _ h => h) (.inl ⟨by kernel_rfl, fun wx hx => by kernel_rfl⟩) hS8 ?_
  refine wpAnyH_take (i := 11) (v := .bool false) rfl (by kernel_rfl) (by kernel_rfl) (by kernel_rfl) (fun _ _ _ h => h) (.inl ⟨by kernel_rfl, fun wx hx => exec_bin (u := .int .i64 (p1 : Int)) (v := .int .i64 (p1 : Int)) (r := .bool false) rfl (by kernel_rfl) (by kernel_rfl) (by simp [go_sem]) (by simp [go_sem])⟩) hS8 ?_
  refine wpAnyH_take (i := 12) (v := .bool false) rfl (by kernel_rfl) (by kernel_rfl) (by kernel_rfl) (fun _ _ _ h => h) (.inl ⟨by kernel_rfl, fun wx hx => by kernel_rfl⟩) hS8 ?_
  refine wpAnyH_take (i := 13) (v := .bool false) rfl (by kernel_rfl) (by kernel_rfl) (by kernel_rfl) (fun _ _ _ h => h) (.inl ⟨by kernel_rfl, fun wx hx => by kernel_rfl⟩) hS8 ?_
  refine wpAnyH_take (i := 14) (v := .bool p2) rfl (by kernel_rfl) (by kernel_rfl) (by kernel_rfl) (fun _ _ _ h => h) (.inl ⟨by kernel_rfl, fun wx hx => by kernel_rfl⟩) hS8 ?_
  refine wpAnyH_take (i := 15) (v := .bool p2) rfl (by kernel_rfl) (by kernel_rfl) (by kernel_rfl) (fun _ _ _ h => h) (.inl ⟨by kernel_rfl, fun wx hx => by kernel_rfl⟩) hS8 ?_
  refine wpAnyH_take (i := 16) (v := .bool false) rfl (by kernel_rfl) (by kernel_rfl) (by kernel_rfl) (fun _ _ _ h => h) (.inl ⟨by kernel_rfl, fun wx hx => exec_bin (u := .bool p2) (v := .bool p2) (r := .bool false) rfl (by kernel_rfl) (by kernel_rfl) (by simp [go_sem]) (by simp [go_sem])⟩) hS8 ?_
  refine wpAnyH_take (i := 17) (v := .bool false) rfl (by kernel_rfl) (by kernel_rfl) (by kernel_rfl) (fun _ _ _ h => h) (.inl ⟨by kernel_rfl, fun wx hx => by kernel_rfl⟩) hS8 ?_
  refine wpAnyH_take (i := 18) (v := .bool false) rfl (by kernel_rfl) (by kernel_rfl) (by kernel_rfl) (fun _ _ _ h => h) (.inl ⟨by kernel_rfl, fun wx hx => by kernel_rfl⟩) hS8 ?_
  refine wpAnyH_take (i := 19) (v := .agg #[.int .i64 L, .slice xa cs.length xc, .slice ya ts.length yc]) rfl (by kernel_rfl) (by kernel_rfl) (by kernel_rfl) (fun _ _ _ h => h) (.inl ⟨by kernel_rfl, fun wx hx => exec_load (u := .pointer (some ⟨xb, 0, none⟩)) (r := .agg #[.int .i64 L, .slice xa cs.length xc, .slice ya ts.length yc]) rfl (by kernel_rfl) (by obtain ⟨_, _, _, _, _, _, h6, h7, h8⟩ := hx; simp [go_sem, h6, h7, h8])⟩) hS8 ?_
  refine wpAnyH_take (i := 20) (v := .agg #[.int .i64 L', .slice ca' cs'.length cc', .slice ta' ts'.length tc']) rfl (by kernel_rfl) (by kernel_rfl) (by kernel_rfl) (fun _ _ _ h => h) (.inl ⟨by kernel_rfl, fun wx hx => exec_load (u := .pointer (some ⟨w.heap.size + 1, 0, none⟩)) (r := .agg #[.int .i64 L', .slice ca' cs'.length cc', .slice ta' ts'.length tc']) rfl (by kernel_rfl) (by obtain ⟨_, _, _, h3, h4, h5, _, _, _⟩ := hx; simp [go_sem, h3, h4, h5])⟩) hS8 ?_
  refine wpAnyH_take (i := 23) (v := .agg #[.int .i64 L, .slice ca cs.length cc, .slice ta ts.length tc]) rfl (by kernel_rfl) (by kernel_rfl) (by kernel_rfl) (fun _ _ _ h => h) (.inl ⟨by kernel_rfl, fun wx hx => exec_load (u := .pointer (some ⟨w.heap.size, 0, none⟩)) (r := .agg #[.int .i64 L, .slice ca cs.length cc, .slice ta ts.length tc]) rfl (by kernel_rfl) (by obtain ⟨h0, h1, h2, _, _, _, _, _, _⟩ := hx; simp [go_sem, h0, h1, h2])⟩) hS8 ?_
  refine wpAnyH_take (i := 24) (v := .agg #[.int .i64 L', .slice ca' cs'.length cc', .slice ta' ts'.length tc']) rfl (by kernel_rfl) (by kernel_rfl) (by kernel_rfl) (fun _ _ _ h => h) (.inl ⟨by kernel_rfl, fun wx hx => exec_load (u := .pointer (some ⟨w.heap.size + 1, 0, none⟩)) (r := .agg #[.int .i64 L', .slice ca' cs'.length cc', .slice ta' ts'.length tc']) rfl (by kernel_rfl) (by obtain ⟨_, _, _, h3, h4, h5, _, _, _⟩ := hx; simp [go_sem, h3, h4, h5])⟩) hS8 ?_
  refine wpAnyH_call (i := 21) (f := 29) (vals := #[.agg #[.int .i64 L', .slice ca' cs'.length cc', .slice ta' ts'.length tc']]) rfl (by kernel_rfl) (by kernel_rfl) (by kernel_rfl) ((hTo.out.run).mono ?_)
  rintro e w9 ⟨ua, uc, va, vc, rfl, UH, UT, T9⟩
  have M9 := ((Kept.refl w8).drew).trans T9
  have hS9 : SW L L' ca ca' ta ta' xa ya cc cc' tc tc' xc yc cs.length cs'.length ts.length ts'.length w.heap.size xb w9 := ⟨M9.cell a0, M9.cell a1, M9.cell a2, M9.cell b0, M9.cell b1, M9.cell b2, M9.cell x0, M9.cell x1, M9.cell x2⟩
  refine ⟨_, rfl, hS9, ?_⟩
  refine wpAnyH_call (i := 22) (f := 34) (vals := #[.agg #[.int .i64 L, .slice xa cs.length xc, .slice ya ts.length yc], .agg #[.int .i64 L', .slice ua cs'.length uc, .slice va ts'.length vc]]) rfl (by kernel_rfl) (by kernel_rfl) (by kernel_rfl) ((psame_any L L' xa ua ya va xc uc yc vc cs cs' ts ts' w9 (HYH.out.kept M9) UH (HYT.out.kept M9) UT (by omega) (by omega) HOK.out).mono ?_)
  rintro e w10 ⟨rfl, T10⟩
  rw [HZS.out]
  have M10 := M9.trans T10
  have hS10 : SW L L' ca ca' ta ta' xa ya cc cc' tc tc' xc yc cs.length cs'.length ts.length ts'.length w.heap.size xb w10 := ⟨M10.cell a0, M10.cell a1, M10.cell a2, M10.cell b0, M10.cell b1, M10.cell b2, M10.cell x0, M10.cell x1, M10.cell x2⟩
  refine ⟨_, rfl, hS10, ?_⟩
  refine wpAnyH_call (i := 25) (f := 35) (vals := #[.agg #[.int .i64 L, .slice ca cs.length cc, .slice ta ts.length tc], .agg #[.int .i64 L', .slice ca' cs'.length cc', .slice ta' ts'.length tc']]) rfl (by kernel_rfl) (by kernel_rfl) (by kernel_rfl) ((rsset_any L L' ca ca' ta ta' cc cc' tc tc' cs cs' ts ts' w10 (HH.out.kept (HK8.out.trans M10)) (HH'.out.kept (HK8.out.trans M10)) (HA.out.kept (HK8.out.trans M10)) (HA'.out.kept (HK8.out.trans M10)) (by omega) (by omega) HOK.out).mono ?_)
  rintro e w11 ⟨rfl, T11⟩
  rw [HZS.out]
  have M11 := M10.trans T11
  have hS11 : SW L L' ca ca' ta ta' xa ya cc cc' tc tc' xc yc cs.length cs'.length ts.length ts'.length w.heap.size xb w11 := ⟨M11.cell a0, M11.cell a1, M11.cell a2, M11.cell b0, M11.cell b1, M11.cell b2, M11.cell x0, M11.cell x1, M11.cell x2⟩
  refine ⟨_, rfl, hS11, ?_⟩
  refine wpAnyH_take (i := 26) (v := .bool false) rfl (by kernel_rfl) (by kernel_rfl) (by kernel_rfl) (fun _ _ _ h => h) (.inl ⟨by kernel_rfl, fun wx hx => exec_bin (u := .bool zs) (v := .bool zs) (r := .bool false) rfl (by kernel_rfl) (by kernel_rfl) (by simp [go_sem]) (by simp [go_sem])⟩) hS11 ?_
  refine wpAnyH_take (i := 27) (v := .bool false) rfl (by kernel_rfl) (by kernel_rfl) (by kernel_rfl) (fun _ _ _ h => h) (.inl ⟨by kernel_rfl, fun wx hx => by kernel_rfl⟩) hS11 ?_
  refine wpAnyH_take (i := 28) (v := .bool false) rfl (by kernel_rfl) (by kernel_rfl) (by kernel_rfl) (fun _ _ _ h => h) (.inl ⟨by kernel_rfl, fun wx hx => by kernel_rfl⟩) hS11 ?_
  refine wpAnyH_take (i := 29) (v := .agg #[.int .i64 L, .slice xa cs.length xc, .slice ya ts.length yc]) rfl (by kernel_rfl) (by kernel_rfl) (by kernel_rfl) (fun _ _ _ h => h) (.inl ⟨by kernel_rfl, fun wx hx => exec_load (u := .pointer (some ⟨xb, 0, none⟩)) (r := .agg #[.int .i64 L, .slice xa cs.length xc, .slice ya ts.length yc]) rfl (by kernel_rfl) (by obtain ⟨_, _, _, _, _, _, h6, h7, h8⟩ := hx; simp [go_sem, h6, h7, h8])⟩) hS11 ?_
  refine wpAnyH_take (i := 31) (v := .agg #[.int .i64 L, .slice ca cs.length cc, .slice ta ts.length tc]) rfl (by kernel_rfl) (by kernel_rfl) (by kernel_rfl) (fun _ _ _ h => h) (.inl ⟨by kernel_rfl, fun wx hx => exec_load (u := .pointer (some ⟨w.heap.size, 0, none⟩)) (r := .agg #[.int .i64 L, .slice ca cs.length cc, .slice ta ts.length tc]) rfl (by kernel_rfl) (by obtain ⟨h0, h1, h2, _, _, _, _, _, _⟩ := hx; simp [go_sem, h0, h1, h2])⟩) hS11 ?_
  refine wpAnyH_call (i := 30) (f := 36) (vals := #[.agg #[.int .i64 L, .slice xa cs.length xc, .slice ya ts.length yc]]) rfl (by kernel_rfl) (by kernel_rfl) (by kernel_rfl) ((swaits_any L xa ya xc yc cs.length ts w11 (HR.out.kept (HK8.out.trans M11)) (HYT.out.kept M11) HOK.out (by omega)).mono ?_)
  rintro e w12 ⟨rfl, T12⟩
  rw [HZW.out]
  have M12 := M11.trans T12
  have hS12 : SW L L' ca ca' ta ta' xa ya cc cc' tc tc' xc yc cs.length cs'.length ts.length ts'.length w.heap.size xb w12 := ⟨M12.cell a0, M12.cell a1, M12.cell a2, M12.cell b0, M12.cell b1, M12.cell b2, M12.cell x0, M12.cell x1, M12.cell x2⟩
  refine ⟨_, rfl, hS12, ?_⟩
  refine wpAnyH_call (i := 32) (f := 37) (vals := #[.agg #[.int .i64 L, .slice ca cs.length cc, .slice ta ts.length tc]]) rfl (by kernel_rfl) (by kernel_rfl) (by kernel_rfl) ((rswaits_any L ca ta cc tc cs.length ts w12 (HA.out.kept (HK8.out.trans M12)) HOK.out (by omega)).mono ?_)
  rintro e w13 ⟨rfl, T13⟩
  rw [HZW.out]
  have M13 := M12.trans T13
  have hS13 : SW L L' ca ca' ta ta' xa ya cc cc' tc tc' xc yc cs.length cs'.length ts.length ts'.length w.heap.size xb w13 := ⟨M13.cell a0, M13.cell a1, M13.cell a2, M13.cell b0, M13.cell b1, M13.cell b2, M13.cell x0, M13.cell x1, M13.cell x2⟩
  refine ⟨_, rfl, hS13, ?_⟩
  refine wpAnyH_take (i := 33) (v := .bool false) rfl (by kernel_rfl) (by kernel_rfl) (by kernel_rfl) (fun _ _ _ h => h) (.inl ⟨by kernel_rfl, fun wx hx => exec_bin (u := .bool zw) (v := .bool zw) (r := .bool false) rfl (by kernel_rfl) (by kernel_rfl) (by simp [go_sem]) (by simp [go_sem])⟩) hS13 ?_
  refine wpAnyH_take (i := 34) (v := .bool false) rfl (by kernel_rfl) (by kernel_rfl) (by kernel_rfl) (fun _ _ _ h => h) (.inl ⟨by kernel_rfl, fun wx hx => by kernel_rfl⟩) hS13 ?_
  refine wpAnyH_done (by kernel_rfl) ?_ _
  refine hkz _ _ ?_
  refine act_eq (b := { tmps := #[Value.agg #[Value.int IntKind.i64 L, Value.slice ca cs.length cc, Value.slice ta ts.length tc], Value.agg #[Value.int IntKind.i64 L', Value.slice ca' cs'.length cc', Value.slice ta' ts'.length tc'], Value.string (B nm), Value.pointer (some { block := w.heap.size, off := 0 }), Value.pointer (some { block := w.heap.size + 1, off := 0 }), undef, Value.bool false, Value.pointer (some { block := xb, off := 0 }), Value.int IntKind.i64 ↑q1, Value.int IntKind.i64 q2, Value.int IntKind.i64 ↑q1, Value.int IntKind.i64 q2, Value.int IntKind.i64 ↑p1, Value.bool p2, Value.int IntKind.i64 ↑p1, Value.bool p2, undef, Value.bool true, Value.bool false, Value.agg #[Value.int IntKind.i64 L, Value.slice ca cs.length cc, Value.slice ta ts.length tc], Value.bool true, Value.bool false, Value.bool false, Value.agg #[Value.int IntKind.i64 L', Value.slice ca' cs'.length cc', Value.slice ta' ts'.length tc'], Value.bool true, Value.bool false, Value.bool false, Value.bool false, Value.string (B nm), Value.int IntKind.i64 ((B nm).size : Int), Value.bool (decide (50 < ((B nm).size : Int))), Value.bool (decide (50 < ((B nm).size : Int))), Value.agg #[Value.int IntKind.i64 L, Value.slice ca cs.length cc, Value.slice ta ts.length tc], Value.agg #[Value.int IntKind.i64 L, Value.slice xa cs.length xc, Value.slice ya ts.length yc], Value.tuple #[Value.int IntKind.i64 ↑q1, Value.int IntKind.i64 q2], Value.agg #[Value.int IntKind.i64 L, Value.slice xa cs.length xc, Value.slice ya ts.length yc], Value.tuple #[Value.int IntKind.i64 ↑q1, Value.int IntKind.i64 q2], Value.int IntKind.i64 ↑q1, Value.int IntKind.i64 q2, Value.tuple #[Value.int IntKind.i64 ↑q1, Value.int IntKind.i64 q2], Value.agg #[Value.int IntKind.i64 L, Value.slice ca cs.length cc, Value.slice ta ts.length tc], Value.tuple #[Value.int IntKind.i64 ↑q1, Value.int IntKind.i64 q2], Value.int IntKind.i64 ↑q1, Value.int IntKind.i64 q2, Value.tuple #[Value.int IntKind.i64 ↑p1, Value.bool p2], Value.agg #[Value.int IntKind.i64 L, Value.slice xa cs.length xc, Value.slice ya ts.length yc], Value.string (B nm), Value.tuple #[Value.int IntKind.i64 ↑p1, Value.bool p2], Value.int IntKind.i64 ↑p1, Value.bool p2, Value.tuple #[Value.int IntKind.i64 ↑p1, Value.bool p2], Value.agg #[Value.int IntKind.i64 L, Value.slice ca cs.length cc, Value.slice ta ts.length tc], Value.string (B nm), Value.tuple #[Value.int IntKind.i64 ↑p1, Value.bool p2], Value.int IntKind.i64 ↑p1, Value.bool p2, Value.int IntKind.i64 (q1 : Int), Value.int IntKind.i64 (q1 : Int), Value.bool false, Value.bool false, Value.int IntKind.i64 q2, Value.int IntKind.i64 q2, Value.bool false, Value.bool false, Value.bool false, Value.int IntKind.i64 (p1 : Int), Value.int IntKind.i64 (p1 : Int), Value.bool false, Value.bool false, Value.bool false, Value.bool p2, Value.bool p2, Value.bool false, Value.bool false, Value.bool false, Value.agg #[Value.int IntKind.i64 L, Value.slice xa cs.length xc, Value.slice ya ts.length yc], Value.agg #[Value.int IntKind.i64 L', Value.slice ca' cs'.length cc', Value.slice ta' ts'.length tc'], Value.agg #[Value.int IntKind.i64 L', Value.slice ua cs'.length uc, Value.slice va ts'.length vc], Value.bool zs, Value.agg #[Value.int IntKind.i64 L, Value.slice ca cs.length cc, Value.slice ta ts.length tc], Value.agg #[Value.int IntKind.i64 L', Value.slice ca' cs'.length cc', Value.slice ta' ts'.length tc'], Value.bool zs, Value.bool false, Value.bool false, Value.bool false, Value.agg #[Value.int IntKind.i64 L, Value.slice xa cs.length xc, Value.slice ya ts.length yc], Value.bool zw, Value.agg #[Value.int IntKind.i64 L, Value.slice ca cs.length cc, Value.slice ta ts.length tc], Value.bool zw, Value.bool false, Value.bool false, undef, undef, undef, undef, undef, undef, undef, undef, undef, undef, undef, undef, undef, undef, undef, undef, undef, undef, undef, undef, undef, undef], defers := [] }) (by kernel_rfl) ?_
  clear hkz
  have KF := HK8.out.trans M13
  by_cases hq : q2 = 0
  · subst hq
    have HPG : Hid (∀ t ∈ ts, checkP t.prog = (0, 0)) := checkS_prog HQ2.out
    have HM : Hid (Kept w8 w13) := M13
    clear a0 a1 a2 b0 b1 b2 x0 x1 x2 M9 M10 M11 M12 M13 T9 T10 T11 T12 T13 UH UT hTo hS8 hS9 hS10 hS11 hS12 hS13
    go_wp2_with fail
    go_loopg [16] ts.length (fun gk i wr => ∃ (j : Nat) (W : World), W = wr ∧ i = .int .i64 j ∧ j + gk = ts.length ∧ Hid (Kept w8 W))
    case atStart => exact ⟨0, _, rfl, rfl, by omega, HM⟩
    case round =>
      obtain ⟨j, W, hW, rfl, hj, HKW⟩ := hrel
      subst hW
      have a2 : W.cell? ⟨w.heap.size, 2, none⟩ = some (.slice ta ts.length tc) := (HC1.out.kept HKW.out).cell 2 (by simp)
      by_cases hjp : j < ts.length
      · obtain ⟨b, f, nm1, pd, dl, bu, pr, pa, pc, rfl, hpj, g0, g1, g2, g3, g4, hpc, hat, _, _⟩ := (HA.out.kept (HK8.out.trans HKW.out)).get j hjp
        obtain ⟨b', f', nm2, pd', dl', bu', pr', pa', pc', rfl, hpj', g0', g1', g2', g3', g4', _, hat', _, _⟩ := (HYT.out.kept HKW.out).get j hjp
        have e := Option.some.inj (hpj.symm.trans hpj')
        cases e
        have hck := HPG.out _ (List.mem_of_getElem? hpj)
        simp only at hck
        have c1 : (j : Int) < (ts.length : Int) := by omega
        have c2 : (0 : Int) ≤ (j : Int) := by omega
        have x2 : W.cell? ⟨xb, 2, none⟩ = some (.slice (some ⟨b', f', none⟩) ts.length yc) := (HCX.out.kept HKW.out).cell 2 (by simp)
        obtain ⟨z, hz⟩ : ∃ z, min (costD pr) bu = z := ⟨_, rfl⟩
        have HN1 : Hid (NeedB 38 #[.agg #[.string (B nm1), .int .i64 pd, .int .i64 dl, .int .i64 bu, .slice pa' pr.length pc']] W z) := ⟨fun wx kx => by
          have h := need_any nm1 pd dl bu pr pa' pc' wx (hat'.kept kx) hck
          rw [hz] at h
          exact h⟩
        have HN2 : Hid (NeedB 39 #[.agg #[.string (B nm1), .int .i64 pd, .int .i64 dl, .int .i64 bu, .slice pa pr.length pc]] W z) := ⟨fun wx kx => by
          have h := rneed_any nm1 pd dl bu pr pa pc wx (hat.kept kx) hpc hck
          rw [hz] at h
          exact h⟩
        have KD : Kept W W.drew := (Kept.refl W).drew
        have gz : (z != z) = false := by simp
        obtain ⟨gi, rfl⟩ : ∃ g, gk = g + 1 := ⟨gk - 1, by omega⟩
        clear hpj hpj' hat hat' hck hz hpc
        go_wp2_with fail
        go_region_held3 (fun w' => w'.cell? ⟨xb, 2, none⟩ = some (.slice (some ⟨b', f', none⟩) ts.length yc) ∧ w'.cell? ⟨w.heap.size, 2, none⟩ = some (.slice (some ⟨b, f, none⟩) ts.length tc) ∧ w'.cell? ⟨b, f + j * 5, none⟩ = some (.string (B nm1)) ∧ w'.cell? ⟨b, f + j * 5 + 1, none⟩ = some (.int .i64 pd) ∧ w'.cell? ⟨b, f + j * 5 + 2, none⟩ = some (.int .i64 dl) ∧ w'.cell? ⟨b, f + j * 5 + 3, none⟩ = some (.int .i64 bu) ∧ w'.cell? ⟨b, f + j * 5 + 4, none⟩ = some (.slice pa pr.length pc) ∧ w'.cell? ⟨b', f' + j * 5, none⟩ = some (.string (B nm1)) ∧ w'.cell? ⟨b', f' + j * 5 + 1, none⟩ = some (.int .i64 pd) ∧ w'.cell? ⟨b', f' + j * 5 + 2, none⟩ = some (.int .i64 dl) ∧ w'.cell? ⟨b', f' + j * 5 + 3, none⟩ = some (.int .i64 bu) ∧ w'.cell? ⟨b', f' + j * 5 + 4, none⟩ = some (.slice pa' pr.length pc')) (go_keep) (first | (go_at_call 38; refine (HN1.out.run _ KD).mono ?_; rintro e w9 ⟨rfl, T9⟩; have N1 := KD.trans T9; have mu0 := N1.cell x2; have mu1 := N1.cell a2; have mv0 := N1.cell g0; have mv1 := N1.cell g1; have mv2 := N1.cell g2; have mv3 := N1.cell g3; have mv4 := N1.cell g4; have mt0 := N1.cell g0'; have mt1 := N1.cell g1'; have mt2 := N1.cell g2'; have mt3 := N1.cell g3'; have mt4 := N1.cell g4') | (go_at_call 39; refine (HN2.out.run _ N1).mono ?_; rintro e w10 ⟨rfl, T10⟩; have N2 := N1.trans T10; have ku0 := N2.cell x2; have ku1 := N2.cell a2; have kv0 := N2.cell g0; have kv1 := N2.cell g1; have kv2 := N2.cell g2; have kv3 := N2.cell g3; have kv4 := N2.cell g4; have kt0 := N2.cell g0'; have kt1 := N2.cell g1'; have kt2 := N2.cell g2'; have kt3 := N2.cell g3'; have kt4 := N2.cell g4') | fail)
        go_wp2_with fail
        go_roundg gi
        case rel => exact ⟨j + 1, _, rfl, by go_num, by omega, HKW.out.trans N2⟩
        case measure => omega
      · have c1 : ¬ (j : Int) < (ts.length : Int) := by omega
        go_wp2_with fail
        go_ret
        exact ⟨rfl, HK8.out.trans HKW.out⟩
  · have hne : (q2 != 0) = true := by simpa using hq
    clear a0 a1 a2 b0 b1 b2 x0 x1 x2 hS8 hS9 hS10 hS11 hS12 hS13
    go_wp2_with fail
    go_ret
    exact ⟨rfl, KF⟩
end Go.Proofs.YtolljdomnohmdaaDoor
