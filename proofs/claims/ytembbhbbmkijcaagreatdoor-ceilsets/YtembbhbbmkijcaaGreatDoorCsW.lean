/- CeilSets, walked. -/
import Derived.Test.YtembbhbbmkijcaaGreatDoorCeX
import Derived.Test.YtembbhbbmkijcaaGreatDoorQKnC
import Derived.Test.YtembbhbbmkijcaaGreatDoorTSo
namespace Go.Proofs.YtembbhbbmkijcaaGreatDoor
open Go.RowKit Go.Sort

theorem flats_ex {ts : List TaskD} (h : ∀ t ∈ ts, checkP t.prog = (0, 0)) : ∃ F : Nat → List OpD, ∀ (i : Nat) (t : TaskD), ts[i]? = some t → Bal 3 0 0 t.prog (F i) := by
  refine ⟨fun i => match ts[i]? with
    | some t => Classical.epsilon (fun f => Bal 3 0 0 t.prog f)
    | none => [], fun i t hi => ?_⟩
  simp only [hi]
  obtain ⟨_, _, _, f, hb, _⟩ := taken_prog (h t (List.mem_of_getElem? hi))
  exact Classical.epsilon_spec (p := fun f => Bal 3 0 0 t.prog f) ⟨f, hb⟩
section
variable {P : Program} {ops : Array Oper} {Q : Exit → Act → World → Prop} {md : Region.Mode} {S : World → Prop}
theorem oper_calls {o : Oper} {a : Act} {w : World} {K : Act → World → Prop} {f : FuncId} {vals : Array Value} (hx : (execOp a.eval o).run P w = .ok (.enter f vals) w) (h : Calls P f vals w fun e w' => ∃ v, e = .returned v ∧ K (a.put o.dst v) w') : Oper.wp P o a w K Q := by
  unfold Oper.wp
  rw [hx, Oper.upon_enter]
  refine h.mono ?_
  rintro e w' ⟨v, rfl, k⟩
  exact k
theorem act_eq {P : Program} {c : Code} {Q : Exit → Act → World → Prop} {a b : Act} {w : World} (h : a = b) (hb : Code.wp P c Q b w) : Code.wp P c Q a w := by
  rw [h]
  exact hb
/-- Number i alone may come up, and calls. -/
theorem wpAnyH_call {i : Nat} {oi : Oper} {fuel : Nat} {listed : Array Bool} {a : Act} {w : World} {f : FuncId} {vals : Array Value} (hi : ops[i]? = some oi) (hr : Region.ready md ops listed = [i]) (hg : Region.wanted oi (yielded ops a.tmps) = true) (hx : (execOp a.eval oi).run P w = .ok (.enter f vals) w)
    (h : Calls P f vals w fun e w' => ∃ v, e = .returned v ∧ S w' ∧ wpAnyH P md ops Q S fuel (listed.setIfInBounds i true) (a.put oi.dst v) w') : wpAnyH P md ops Q S (fuel + 1) listed a w := by
  refine wpAnyH_all hr (by simp) (fun j hj => ?_)
  obtain rfl := List.mem_singleton.1 hj
  refine wpOp_step hi (fun K' hK => ?_)
  rw [if_pos hg]
  refine oper_calls hx (h.mono ?_)
  rintro e w' ⟨v, rfl, h1, h2⟩
  exact ⟨v, rfl, hK _ _ ⟨h1, h2⟩⟩
theorem exec_bin {ρ : Operand → Value} {o : Oper} {op : BinOp} {t t2 : TypeId} {x y : Operand} {u v r : Value} {w : World} (ho : o.op = .binOp op t x y t2) (hx : ρ x = u) (hy : ρ y = v) (h1 : (eqGuard op t x y u v).run P w = .ok () w) (h2 : (binOp op t u v).run P w = .ok r w) : (execOp ρ o).run P w = .ok (.value r) w := by
  unfold execOp
  rw [ho]
  simp [hx, hy, Result.andThen, h1, h2]
theorem exec_load {ρ : Operand → Value} {o : Oper} {t : TypeId} {x : Operand} {u r : Value} {w : World} (ho : o.op = .load t x) (hx : ρ x = u) (h1 : (Instr.loadAt t u).run P w = .ok r w) : (execOp ρ o).run P w = .ok (.value r) w := by
  unfold execOp
  rw [ho]
  simp [hx, Result.andThen, h1]
theorem exec_idx {ρ : Operand → Value} {o : Oper} {t : TypeId} {x y : Operand} {u v r : Value} {w : World} (ho : o.op = .indexAddr t x y) (hx : ρ x = u) (hy : ρ y = v) (h1 : (Instr.indexAt t u v).run P w = .ok r w) : (execOp ρ o).run P w = .ok (.value r) w := by
  unfold execOp
  rw [ho]
  simp [hx, hy, Result.andThen, h1]
end
/-- What a call tells in every later world: numbers. -/
structure TellN (f : FuncId) (args : Array Value) (w : World) (l : List Int) : Prop where
  run : ∀ wx, Kept w wx → Calls Tryz.prog f args wx fun e w' => ∃ va vc, e = .returned (.slice va l.length vc) ∧ AtI w' va l ∧ Kept wx w'
set_option maxHeartbeats 8000000 in
set_option maxRecDepth 20000 in
theorem csets_law (L lock : Int) (ca ta : Option Addr) (cc tc : Nat) (cs : List ChanD) (ts : List TaskD) (w : World) (hr : Rdy w) (hH : AtH w ca cs) (hA : AtT w ta ts) :
    Calls Tryz.prog 3 #[.agg #[.int .i64 L, .slice ca cs.length cc, .slice ta ts.length tc], .int .i64 lock] w fun e w' => e = .returned (.bool true) ∧ Kept w w' := by
  have HR : Hid (Rdy w) := hr
  have HH : Hid (AtH w ca cs) := hH
  have HA : Hid (AtT w ta ts) := hA
  have K0 := (Kept.refl w).alloc (.cells #[.int .i64 L, .slice ca cs.length cc, .slice ta ts.length tc] 25)
  have HB : Hid (Box w.heap.size (w.alloc (.cells #[.int .i64 L, .slice ca cs.length cc, .slice ta ts.length tc] 25)) 25 w.heap.size [.int .i64 L, .slice ca cs.length cc, .slice ta ts.length tc]) := box_new w.heap.size w 25 [.int .i64 L, .slice ca cs.length cc, .slice ta ts.length tc] (Nat.le_refl _) (by simp)
  have hk := cknown_true (w.alloc (.cells #[.int .i64 L, .slice ca cs.length cc, .slice ta ts.length tc] 25)) (HR.out.kept K0)
  clear hr hH hA
  go_enter Tryz.func3, Tryz.ntmps3
  go_wp2_with fail
  refine hk.mono ?_
  rintro e w1 ⟨rfl, T1⟩
  have K1 := K0.trans T1
  have HB1 : Hid (Box w.heap.size w1 25 w.heap.size [.int .i64 L, .slice ca cs.length cc, .slice ta ts.length tc]) := HB.out.kept T1
  clear hk HB K0 T1
  have s0 : w1.cell? ⟨w.heap.size, 0, none⟩ = some (.int .i64 L) := HB1.out.cell 0 (by simp)
  have s1 : w1.cell? ⟨w.heap.size, 1, none⟩ = some (.slice ca cs.length cc) := HB1.out.cell 1 (by simp)
  have s2 : w1.cell? ⟨w.heap.size, 2, none⟩ = some (.slice ta ts.length tc) := HB1.out.cell 2 (by simp)
  have hck := rcset_any L ca ta cc tc cs ts w1 (HH.out.kept K1) (HA.out.kept K1)
  obtain ⟨q1, hq1⟩ : ∃ q, (checkS L cs ts).1 = q := ⟨_, rfl⟩
  obtain ⟨q2, hq2⟩ : ∃ q, (checkS L cs ts).2 = q := ⟨_, rfl⟩
  rw [hq1, hq2] at hck
  have HQ : Hid ((checkS L cs ts).2 = q2) := hq2
  clear hq1 hq2
  go_wp2_with fail
  refine hck.mono ?_
  rintro e w2 ⟨rfl, T2⟩
  have K2 := K1.trans T2
  have HB2 : Hid (Box w.heap.size w2 25 w.heap.size [.int .i64 L, .slice ca cs.length cc, .slice ta ts.length tc]) := HB1.out.kept T2
  clear s0 s1 s2 hck HB1 T2 K1
  have s0 : w2.cell? ⟨w.heap.size, 0, none⟩ = some (.int .i64 L) := HB2.out.cell 0 (by simp)
  have s1 : w2.cell? ⟨w.heap.size, 1, none⟩ = some (.slice ca cs.length cc) := HB2.out.cell 1 (by simp)
  have s2 : w2.cell? ⟨w.heap.size, 2, none⟩ = some (.slice ta ts.length tc) := HB2.out.cell 2 (by simp)
  have hfw := sfew_any L ca ta cc tc cs ts w2 (HA.out.kept K2)
  obtain ⟨fb, hfb⟩ : ∃ fb, fewS cs ts = fb := ⟨_, rfl⟩
  rw [hfb] at hfw
  have HFB : Hid (fewS cs ts = fb) := hfb
  clear hfb
  go_wp2_with fail
  refine hfw.mono ?_
  rintro e w3 ⟨rfl, T3⟩
  have K3 := K2.trans T3
  have HB3 : Hid (Box w.heap.size w3 25 w.heap.size [.int .i64 L, .slice ca cs.length cc, .slice ta ts.length tc]) := HB2.out.kept T3
  clear s0 s1 s2 hfw HB2 T3 K2
  cases fb with
  | false =>
    go_wp2_with fail
    go_ret
    exact ⟨rfl, K3⟩
  | true =>
  by_cases hq0 : q2 = 0
  rotate_left
  · have hne : (q2 != 0) = true := by simpa using hq0
    go_wp2_with fail
    go_ret
    exact ⟨rfl, K3⟩
  subst hq0
  obtain ⟨hn1, hn12, hc8, hL0, hL8⟩ := checkS_len HQ.out
  have HALL : Hid (∀ t ∈ ts, (checkP t.prog).2 = 0 ∧ timesB t = true ∧ hasAllB L cs.length t.prog = true) := checkS_all HQ.out
  have HPG : Hid (∀ t ∈ ts, checkP t.prog = (0, 0)) := fun t ht => prog_0 (HALL.out t ht).1
  have HLK : Hid (∀ t ∈ ts, ∀ x ∈ locksD t.prog, 0 ≤ x ∧ x < L) := fun t ht => locks_in (HPG.out t ht) (HALL.out t ht).2.2
  obtain ⟨N, rfl⟩ : ∃ N : Nat, L = (N : Int) := ⟨L.toNat, by omega⟩
  obtain ⟨F, hF⟩ := flats_ex HPG.out
  have HF : Hid (∀ (i : Nat) (t : TaskD), ts[i]? = some t → Bal 3 0 0 t.prog (F i)) := hF
  obtain ⟨_, _, hok⟩ := fewS_ok HFB.out
  have HOK : Hid (TsOk ts) := hok
  have HN : Hid (1 ≤ ts.length ∧ ts.length ≤ 12 ∧ N ≤ 8) := ⟨hn1, hn12, by omega⟩
  have hto := sto_any (N : Int) ca ta cc tc cs ts w3 (HH.out.kept K3) (HA.out.kept K3) hok (by omega) (by omega)
  have s0 : w3.cell? ⟨w.heap.size, 0, none⟩ = some (.int .i64 (N : Int)) := HB3.out.cell 0 (by simp)
  have s1 : w3.cell? ⟨w.heap.size, 1, none⟩ = some (.slice ca cs.length cc) := HB3.out.cell 1 (by simp)
  have s2 : w3.cell? ⟨w.heap.size, 2, none⟩ = some (.slice ta ts.length tc) := HB3.out.cell 2 (by simp)
  clear HQ HFB hok hF hL0 hL8 hc8 hn1 hn12
  go_wp2_with fail
  refine hto.mono ?_
  rintro e w4 ⟨xa, xc, ya, yc, rfl, -, AX, -, T4⟩
  have K4 := K3.trans T4
  have TA := (Kept.refl w4).alloc (.cells #[.int .i64 (N : Int), .slice xa cs.length xc, .slice ya ts.length yc] 33)
  have KA := K4.trans TA
  have HBS : Hid (Box w.heap.size (w4.alloc (.cells #[.int .i64 (N : Int), .slice xa cs.length xc, .slice ya ts.length yc] 33)) 25 w.heap.size [.int .i64 (N : Int), .slice ca cs.length cc, .slice ta ts.length tc]) := (HB3.out.kept T4).kept TA
  have HBX : Hid (Box w.heap.size (w4.alloc (.cells #[.int .i64 (N : Int), .slice xa cs.length xc, .slice ya ts.length yc] 33)) 33 w4.heap.size [.int .i64 (N : Int), .slice xa cs.length xc, .slice ya ts.length yc]) := box_new w.heap.size w4 33 [.int .i64 (N : Int), .slice xa cs.length xc, .slice ya ts.length yc] K4.size (by simp)
  have HAX : Hid (AtT (w4.alloc (.cells #[.int .i64 (N : Int), .slice xa cs.length xc, .slice ya ts.length yc] 33)) ya ts) := AX.kept TA
  obtain ⟨xb, hxb⟩ : ∃ xb, w4.heap.size = xb := ⟨_, rfl⟩
  rw [hxb] at HBX
  have HAA : Hid (AtT (w4.alloc (.cells #[.int .i64 (N : Int), .slice xa cs.length xc, .slice ya ts.length yc] 33)) ta ts) := HA.out.kept KA
  have HRA : Hid (Rdy (w4.alloc (.cells #[.int .i64 (N : Int), .slice xa cs.length xc, .slice ya ts.length yc] 33))) := HR.out.kept KA
  have HKA : Hid (Kept w (w4.alloc (.cells #[.int .i64 (N : Int), .slice xa cs.length xc, .slice ya ts.length yc] 33))) := KA
  clear s0 s1 s2 hto AX T4 K4 K3 HB3 TA KA
  have hof := of_any N xa ya cs.length xc yc ts (w4.alloc (.cells #[.int .i64 (N : Int), .slice xa cs.length xc, .slice ya ts.length yc] 33)) HAX.out HOK.out HN.out.1 HN.out.2.1 HN.out.2.2
  go_wp2_with fail
  generalize (w4.alloc (.cells #[.int .i64 (N : Int), .slice xa cs.length xc, .slice ya ts.length yc] 33)) = wA at *
  refine hof.mono ?_
  rintro e w5 ⟨g5, rfl, C5, T5⟩
  have HC5 : Hid (AtI w5 (some ⟨g5, 0, none⟩) (ceilD ts N)) := C5
  have HM5 : Hid (Kept wA w5) := T5
  clear hof C5 T5 hxb
  obtain ⟨sl, hsl⟩ : ∃ l, (if 0 ≤ lock ∧ lock < (N : Int) then secD lock F ts else []) = l := ⟨_, rfl⟩
  have HSLL : Hid (sl.length ≤ 100000) := by
    show _ ≤ _
    rw [← hsl]
    split
    · rw [secD_len]; have := HN.out; omega
    · simp
  have L12 : Hid (TellN 12 #[.agg #[.int .i64 (N : Int), .slice xa cs.length xc, .slice ya ts.length yc], .int .i64 lock] wA sl) := ⟨fun wx kx => by
    rw [← hsl]
    by_cases hlk : 0 ≤ lock ∧ lock < (N : Int)
    · rw [if_pos hlk]
      refine (sections_any (N : Int) lock xa ya cs.length xc yc ts F wx (HRA.out.kept kx) (HAX.out.kept kx) (by have := HN.out; omega) HPG.out HF.out hlk.1 hlk.2).mono ?_
      rintro e w' ⟨g, rfl, a, k⟩
      exact ⟨_, _, by rw [secD_len], a, k⟩
    · rw [if_neg hlk]
      refine (sections_none (N : Int) lock xa ya cs.length xc ts.length yc wx (by omega)).mono ?_
      rintro e w' ⟨rfl, k⟩
      exact ⟨none, 0, rfl, (fun j x hj => by simp at hj), k⟩⟩
  have L13 : Hid (TellN 13 #[.agg #[.int .i64 (N : Int), .slice ca cs.length cc, .slice ta ts.length tc], .int .i64 lock] wA sl) := ⟨fun wx kx => by
    rw [← hsl]
    by_cases hlk : 0 ≤ lock ∧ lock < (N : Int)
    · rw [if_pos hlk]
      refine (rsections_any (N : Int) lock ca ta cs.length cc tc ts F wx (HAA.out.kept kx) (by have := HN.out; omega) HPG.out HF.out hlk.1 hlk.2).mono ?_
      rintro e w' ⟨va, vc, rfl, a, k⟩
      exact ⟨va, vc, by rw [secD_len], a, k⟩
    · rw [if_neg hlk]
      refine (rsections_none (N : Int) lock ca ta cs.length cc ts.length tc wx (by omega)).mono ?_
      rintro e w' ⟨rfl, k⟩
      exact ⟨none, 0, rfl, (fun j x hj => by simp at hj), k⟩⟩
  have LK : Hid (∀ k : Nat, k < N → ∀ wx, Kept wA wx → Calls Tryz.prog 12 #[.agg #[.int .i64 (N : Int), .slice xa cs.length xc, .slice ya ts.length yc], .int .i64 (k : Int)] wx fun e w' => ∃ g, e = .returned (.slice (some ⟨g, 0, none⟩) ts.length ts.length) ∧ AtI w' (some ⟨g, 0, none⟩) (secD (k : Int) F ts) ∧ Kept wx w') := fun k hk wx kx =>
    sections_any (N : Int) (k : Int) xa ya cs.length xc yc ts F wx (HRA.out.kept kx) (HAX.out.kept kx) (by have := HN.out; omega) HPG.out HF.out (by omega) (by omega)
  have LC : Hid (∀ wx, Kept wA wx → Calls Tryz.prog 10 #[.agg #[.int .i64 (N : Int), .slice ca cs.length cc, .slice ta ts.length tc]] wx fun e w' => ∃ g, e = .returned (.slice (some ⟨g, 0, none⟩) N N) ∧ AtI w' (some ⟨g, 0, none⟩) (ceilD ts N) ∧ Kept wx w') := fun wx kx =>
    rceils_any N ca ta cs.length cc tc ts wx (HAA.out.kept kx) (by have := HN.out; omega) (by have := HN.out; omega) (fun t ht => by have := (taken_prog (HPG.out t ht)).1; omega) HLK.out
  have LP : Hid (∀ wx, Kept wA wx → Calls Tryz.prog 14 #[.agg #[.int .i64 (N : Int), .slice xa cs.length xc, .slice ya ts.length yc]] wx fun e w' => ∃ g, e = .returned (.slice (some ⟨g, 0, none⟩) ts.length ts.length) ∧ AtI w' (some ⟨g, 0, none⟩) (prD ts.length (dlT ts)) ∧ Kept wx w') := fun wx kx => by
    refine (prios_any (N : Int) xa cs.length xc ya ts.length yc (dlT ts) wx ((att_d HAX.out).kept kx) HN.out.1 (by have := HN.out; omega)).mono ?_
    rintro e w' ⟨g, rfl, _, a, k⟩
    exact ⟨g, rfl, a, k⟩
  clear hsl
  have a0 : w5.cell? ⟨w.heap.size, 0, none⟩ = some (.int .i64 (N : Int)) := (HBS.out.kept HM5.out).cell 0 (by simp)
  have a1 : w5.cell? ⟨w.heap.size, 1, none⟩ = some (.slice ca cs.length cc) := (HBS.out.kept HM5.out).cell 1 (by simp)
  have a2 : w5.cell? ⟨w.heap.size, 2, none⟩ = some (.slice ta ts.length tc) := (HBS.out.kept HM5.out).cell 2 (by simp)
  have x0 : w5.cell? ⟨xb, 0, none⟩ = some (.int .i64 (N : Int)) := (HBX.out.kept HM5.out).cell 0 (by simp)
  have x1 : w5.cell? ⟨xb, 1, none⟩ = some (.slice xa cs.length xc) := (HBX.out.kept HM5.out).cell 1 (by simp)
  have x2 : w5.cell? ⟨xb, 2, none⟩ = some (.slice ya ts.length yc) := (HBX.out.kept HM5.out).cell 2 (by simp)
  have KD : Kept w5 w5.drew := (Kept.refl w5).drew
  go_wp2_with fail
  go_region_held3 (fun w' => w'.cell? ⟨w.heap.size, 0, none⟩ = some (.int .i64 (N : Int)) ∧ w'.cell? ⟨w.heap.size, 1, none⟩ = some (.slice ca cs.length cc) ∧ w'.cell? ⟨w.heap.size, 2, none⟩ = some (.slice ta ts.length tc) ∧ w'.cell? ⟨xb, 0, none⟩ = some (.int .i64 (N : Int)) ∧ w'.cell? ⟨xb, 1, none⟩ = some (.slice xa cs.length xc) ∧ w'.cell? ⟨xb, 2, none⟩ = some (.slice ya ts.length yc)) (go_keep) (first | (go_at_call 10; refine (LC.out _ (HM5.out.trans KD)).mono ?_; rintro e w6 ⟨g6, rfl, B6, T6⟩; have M6 := KD.trans T6; have A6 := HC5.out.kept M6; have y6a0 := M6.cell a0; have y6a1 := M6.cell a1; have y6a2 := M6.cell a2; have y6x0 := M6.cell x0; have y6x1 := M6.cell x1; have y6x2 := M6.cell x2) | (go_at_call 9; refine (ints_same2 (some ⟨g5, 0, none⟩) (some ⟨g6, 0, none⟩) N N N (ceilD ts N) w6 A6 B6 (ceilD_len ts N) (by rw [ceilD_len]; have := HN.out; omega)).mono ?_; rintro e w7 ⟨rfl, T7⟩; have M7 := M6.trans T7; have y7a0 := M7.cell a0; have y7a1 := M7.cell a1; have y7a2 := M7.cell a2; have y7x0 := M7.cell x0; have y7x1 := M7.cell x1; have y7x2 := M7.cell x2) | (go_at_call 12; refine (L12.out.run _ (HM5.out.trans M7)).mono ?_; rintro e w8 ⟨va, vc, rfl, A8, T8⟩; have M8 := M7.trans T8; have y8a0 := M8.cell a0; have y8a1 := M8.cell a1; have y8a2 := M8.cell a2; have y8x0 := M8.cell x0; have y8x1 := M8.cell x1; have y8x2 := M8.cell x2) | (go_at_call 13; refine (L13.out.run _ (HM5.out.trans M8)).mono ?_; rintro e w9 ⟨vb, vd, rfl, A9, T9⟩; have M9 := M8.trans T9; have B9 := A8.kept T9; have y9a0 := M9.cell a0; have y9a1 := M9.cell a1; have y9a2 := M9.cell a2; have y9x0 := M9.cell x0; have y9x1 := M9.cell x1; have y9x2 := M9.cell x2) | (go_at_call 11; refine (lrow_same va vb sl.length vc vd sl w9 B9 A9 rfl HSLL.out).mono ?_; rintro e w10 ⟨rfl, T10⟩; have M10 := M9.trans T10; have y10a0 := M10.cell a0; have y10a1 := M10.cell a1; have y10a2 := M10.cell a2; have y10x0 := M10.cell x0; have y10x1 := M10.cell x1; have y10x2 := M10.cell x2) | fail)
  have HM10 : Hid (Kept wA w10) := HM5.out.trans M10
  have HC10 : Hid (AtI w10 (some ⟨g5, 0, none⟩) (ceilD ts N)) := HC5.out.kept M10
  clear a0 a1 a2 x0 x1 x2 y6a0 y6a1 y6a2 y6x0 y6x1 y6x2 y7a0 y7a1 y7a2 y7x0 y7x1 y7x2 y8a0 y8a1 y8a2 y8x0 y8x1 y8x2 y9a0 y9a1 y9a2 y9x0 y9x1 y9x2 y10a0 y10a1 y10a2 y10x0 y10x1 y10x2 A6 B6 A8 A9 B9 T6 T7 T8 T9 T10 M6 M7 M8 M9 M10 KD L12 L13 LC HSLL
  have x0 : w10.cell? ⟨xb, 0, none⟩ = some (.int .i64 (N : Int)) := (HBX.out.kept HM10.out).cell 0 (by simp)
  have x1 : w10.cell? ⟨xb, 1, none⟩ = some (.slice xa cs.length xc) := (HBX.out.kept HM10.out).cell 1 (by simp)
  have x2 : w10.cell? ⟨xb, 2, none⟩ = some (.slice ya ts.length yc) := (HBX.out.kept HM10.out).cell 2 (by simp)
  go_wp2_with fail
  refine (LP.out _ HM10.out).mono ?_
  rintro e w11 ⟨gp, rfl, P11, T11⟩
  have HM11 : Hid (Kept wA w11) := HM10.out.trans T11
  have HC11 : Hid (AtI w11 (some ⟨g5, 0, none⟩) (ceilD ts N)) := HC10.out.kept T11
  have HP11 : Hid (AtI w11 (some ⟨gp, 0, none⟩) (prD ts.length (dlT ts))) := P11
  have s2 : w11.cell? ⟨w.heap.size, 2, none⟩ = some (.slice ta ts.length tc) := (HBS.out.kept HM11.out).cell 2 (by simp)
  clear x0 x1 x2 P11 T11 LP HM10 HC10 HC5 HM5
  have gnn : ((ts.length : Int) != (ts.length : Int)) = false := by simp
  go_wp2_with fail
  clear s2
  go_loopg [10] N (fun gk i wr => ∃ (k : Nat) (W : World), W = wr ∧ i = .int .i64 k ∧ k + gk = N ∧ Hid (Kept w11 W))
  case atStart => exact ⟨0, _, rfl, rfl, by omega, Kept.refl _⟩
  case round =>
    obtain ⟨k, W, hW, rfl, hk, HK⟩ := hrel
    subst hW
    have hN8 : N ≤ 8 := HN.out.2.2
    by_cases hkN : k < N
    · have b1 : (k : Int) < (N : Int) := by omega
      have b2 : (0 : Int) ≤ (k : Int) := by omega
      obtain ⟨gm, rfl⟩ : ∃ g, gk = g + 1 := ⟨gk - 1, by omega⟩
      have x0 : W.cell? ⟨xb, 0, none⟩ = some (.int .i64 (N : Int)) := (HBX.out.kept (HM11.out.trans HK.out)).cell 0 (by simp)
      have x1 : W.cell? ⟨xb, 1, none⟩ = some (.slice xa cs.length xc) := (HBX.out.kept (HM11.out.trans HK.out)).cell 1 (by simp)
      have x2 : W.cell? ⟨xb, 2, none⟩ = some (.slice ya ts.length yc) := (HBX.out.kept (HM11.out.trans HK.out)).cell 2 (by simp)
      go_wp2_with fail
      refine (LK.out k hkN _ (HM11.out.trans HK.out)).mono ?_
      rintro e w12 ⟨g12, rfl, L12, T12⟩
      have HK12 : Hid (Kept w11 w12) := HK.out.trans T12
      have HL12 : Hid (AtI w12 (some ⟨g12, 0, none⟩) (secD (k : Int) F ts)) := L12
      have s2 : w12.cell? ⟨w.heap.size, 2, none⟩ = some (.slice ta ts.length tc) := (HBS.out.kept (HM11.out.trans HK12.out)).cell 2 (by simp)
      obtain ⟨cv, hcv⟩ : ∃ z, ceilV (prE ts) (hasK ts k) ts.length = z := ⟨_, rfl⟩
      have HCV : Hid (ceilV (prE ts) (hasK ts k) ts.length = cv) := hcv
      have HCC : Hid (∀ wx, Kept w11 wx → wx.cell? ⟨g5, k, none⟩ = some (.int .i64 cv)) := by
        intro wx kx
        obtain ⟨b', f', e', h⟩ := HC11.out k cv (by simp [ceilD, hkN, hcv])
        cases e'
        rw [Nat.zero_add] at h
        exact kx.cell h
      have c5 := HCC.out _ HK12.out
      clear x0 x1 x2 L12 T12 HK hcv
      go_wp2_with fail
      clear c5 s2
      go_loopg [12, 13] ts.length (fun gk os i wr => ∃ (i' : Nat) (W : World), W = wr ∧ i = .int .i64 i' ∧ os = .bool (oneB cv (prE ts) (hasK ts k) i') ∧ i' + gk = ts.length ∧ Hid (Kept w12 W))
      case atStart => exact ⟨0, _, rfl, rfl, rfl, by omega, Kept.refl _⟩
      case round =>
        obtain ⟨i, W2, hW, rfl, rfl, hi, HK2⟩ := hrel
        subst hW
        have K02 := HK12.out.trans HK2.out
        have s2 : W2.cell? ⟨w.heap.size, 2, none⟩ = some (.slice ta ts.length tc) := (HBS.out.kept (HM11.out.trans K02)).cell 2 (by simp)
        obtain ⟨ob, hob⟩ : ∃ z, oneB cv (prE ts) (hasK ts k) i = z := ⟨_, rfl⟩
        have HOB : Hid (oneB cv (prE ts) (hasK ts k) i = ob) := hob
        rw [hob]
        clear hob
        by_cases hin : i < ts.length
        · have b3 : (i : Int) < (ts.length : Int) := by omega
          have b4 : (0 : Int) ≤ (i : Int) := by omega
          obtain ⟨gi, rfl⟩ : ∃ g, gk = g + 1 := ⟨gk - 1, by omega⟩
          obtain ⟨b, f, nm, pd, dl, bu, pr, pa, pc, rfl, hpj, g0, g1, g2, g3, g4, hpc, hat, _, _⟩ := (HAA.out.kept (HM11.out.trans K02)).get i hin
          have hmem := List.mem_of_getElem? hpj
          have hck := HPG.out _ hmem
          have htm := (HALL.out _ hmem).2.1
          have hba := HF.out i _ hpj
          have hnn := need_nn hck htm
          have hsv : secV (k : Int) F ts i = min (secGo (k : Int) 0 0 (F i)) (min (costD pr) bu) := by unfold secV; rw [hpj]
          have hhk : hasK ts k i = someK (locksD pr) (k : Int) := by unfold hasK someK; rw [hpj]
          have hzero : someK (locksD pr) (k : Int) = false → secGo (k : Int) 0 0 (F i) = 0 := fun h => sec_zero hck hba h
          simp only at hck hba hnn
          obtain ⟨nd, hnd⟩ : ∃ z, min (costD pr) bu = z := ⟨_, rfl⟩
          obtain ⟨lv, hlv⟩ : ∃ z, secV (k : Int) F ts i = z := ⟨_, rfl⟩
          obtain ⟨pe, hpe⟩ : ∃ z, prE ts i = z := ⟨_, rfl⟩
          have HND : Hid (NeedB 16 #[.agg #[.string (B nm), .int .i64 pd, .int .i64 dl, .int .i64 bu, .slice pa pr.length pc]] W2 nd) := ⟨fun wx kx => by
            have h := rneed_any nm pd dl bu pr pa pc wx (hat.kept kx) hpc hck
            rw [hnd] at h
            exact h⟩
          have hlo := rlocks_any pa pc pr W2 hat (by have := (taken_prog hck).1; omega)
          obtain ⟨m, hm⟩ : ∃ z, locksD pr = z := ⟨_, rfl⟩
          have hml : m.length ≤ 100000 := by rw [← hm]; unfold locksD; exact Nat.le_trans (compact_len _) (by rw [List.length_mergeSort]; exact Nat.le_trans (lockNs_len pr) (by have := (taken_prog hck).1; omega))
          rw [hm] at hlo hhk hzero
          rw [hnd] at hsv hnn
          rw [hlv] at hsv
          obtain ⟨hb, hhb⟩ : ∃ z, someK m (k : Int) = z := ⟨_, rfl⟩
          rw [hhb] at hhk hzero
          have HHB : Hid (someK m (k : Int) = hb) := hhb
          have HNUM : Hid (0 ≤ nd ∧ lv ≤ nd ∧ (hb = false → lv = 0) ∧ (hb = true → pe ≤ cv)) := by
            refine ⟨hnn, by omega, fun h => ?_, fun h => ?_⟩
            · rw [hzero h] at hsv
              omega
            · rw [← hpe, ← HCV.out]
              exact ceilV_ge hin (by rw [hhk, h])
          have HON : Hid (oneB cv (prE ts) (hasK ts k) (i + 1) = (ob || (hb && cv == pe))) := by show _ = _; rw [oneB, HOB.out, hhk, hpe]
          have HLV : Hid (∀ wx, Kept w12 wx → wx.cell? ⟨g12, i, none⟩ = some (.int .i64 lv)) := by
            intro wx kx
            obtain ⟨b', f', e', h⟩ := HL12.out i lv (by simp [secD, hin, hlv])
            cases e'
            rw [Nat.zero_add] at h
            exact kx.cell h
          have HPE : Hid (∀ wx, Kept w11 wx → wx.cell? ⟨gp, i, none⟩ = some (.int .i64 pe)) := by
            intro wx kx
            obtain ⟨b', f', e', h⟩ := HP11.out i pe (by rw [← hpe]; simp [prD, prE, hin])
            cases e'
            rw [Nat.zero_add] at h
            exact kx.cell h
          have HTC : Hid (∀ wx, Kept W2 wx → wx.cell? ⟨b, f + i * 5, none⟩ = some (.string (B nm)) ∧ wx.cell? ⟨b, f + i * 5 + 1, none⟩ = some (.int .i64 pd) ∧ wx.cell? ⟨b, f + i * 5 + 2, none⟩ = some (.int .i64 dl) ∧ wx.cell? ⟨b, f + i * 5 + 3, none⟩ = some (.int .i64 bu) ∧ wx.cell? ⟨b, f + i * 5 + 4, none⟩ = some (.slice pa pr.length pc)) := fun wx kx => ⟨kx.cell g0, kx.cell g1, kx.cell g2, kx.cell g3, kx.cell g4⟩
          clear hpj hat hmem hck htm hba hnn hsv hhk hzero hm hnd hlv hpe hhb
          go_wp2_with fail
          refine hlo.mono ?_
          rintro e w4 ⟨v4, rfl, R4, T4⟩
          obtain ⟨la, lc, hv4, A4⟩ := irow_view R4
          subst hv4
          have HA4 : Hid (AtI w4 la m) := A4
          have HK4 : Hid (Kept W2 w4) := T4
          clear hlo R4 A4 T4
          go_wp2_with fail
          clear s2 g0 g1 g2 g3 g4
          go_loopg [14, 16] m.length (fun gk hs j wr => ∃ j' : Nat, j = .int .i64 j' ∧ hs = .bool (someK (m.take j') (k : Int)) ∧ j' + gk = m.length ∧ wr = w4)
          case atStart => exact ⟨0, rfl, rfl, by omega, rfl⟩
          case round =>
            obtain ⟨j, rfl, rfl, hj, hw⟩ := hrel
            subst wr
            by_cases hjm : j < m.length
            · have b5 : (j : Int) < (m.length : Int) := by omega
              have b6 : (0 : Int) ≤ (j : Int) := by omega
              obtain ⟨gj, rfl⟩ : ∃ g, gk = g + 1 := ⟨gk - 1, by omega⟩
              obtain ⟨x, hx⟩ : ∃ x, m[j]? = some x := ⟨_, List.getElem?_eq_getElem hjm⟩
              have HSN : Hid (someK (m.take (j + 1)) (k : Int) = (someK (m.take j) (k : Int) || x == (k : Int))) := some_next (k : Int) hx
              obtain ⟨lb, lf, rfl, cx⟩ := HA4.out j x hx
              obtain ⟨sj, hsj⟩ : ∃ z, someK (m.take j) (k : Int) = z := ⟨_, rfl⟩
              rw [hsj] at HSN ⊢
              clear hx hsj
              cases sj with
              | true =>
                go_wp2_with fail
                go_roundg gj
                case rel => exact ⟨j + 1, by go_num, by rw [HSN.out]; rfl, by omega, rfl⟩
                case measure => omega
              | false =>
                obtain ⟨q, hq⟩ : ∃ z, (x == (k : Int)) = z := ⟨_, rfl⟩
                rw [hq] at HSN
                go_wp2_with fail
                go_roundg gj
                case rel => exact ⟨j + 1, by go_num, by rw [HSN.out]; simp, by omega, rfl⟩
                case measure => omega
            · have b5 : ¬ (j : Int) < (m.length : Int) := by omega
              have hse : someK (m.take j) (k : Int) = hb := by rw [List.take_of_length_le (by omega)]; exact HHB.out
              rw [hse]
              have K04 := K02.trans HK4.out
              have cv1 := HCC.out _ K04
              have cp := HPE.out _ K04
              have cl := HLV.out _ (HK2.out.trans HK4.out)
              have u2 : w4.cell? ⟨w.heap.size, 2, none⟩ = some (.slice (some ⟨b, f, none⟩) ts.length tc) := (HBS.out.kept (HM11.out.trans K04)).cell 2 (by simp)
              obtain ⟨t0, t1, t2, t3, t4⟩ := HTC.out _ HK4.out
              have KD4 : Kept W2 w4.drew := HK4.out.drew
              obtain ⟨hn0, hn1, hn2, hn3⟩ := HNUM.out
              clear K04 K02 hse
              cases hb with
              | true =>
                have hle := hn3 rfl
                go_wp2_with fail
                have ng1 : ¬ cv < pe := by omega
                have ng2 : ¬ nd < lv := by omega
                clear hn0 hn1 hn2 hn3 hle
                rename_i KZ hkz
                have hS4 : (fun w' : World => w'.cell? ⟨w.heap.size, 2, none⟩ = some (.slice (some ⟨b, f, none⟩) ts.length tc) ∧ w'.cell? ⟨g12, i, none⟩ = some (.int .i64 lv) ∧ w'.cell? ⟨gp, i, none⟩ = some (.int .i64 pe) ∧ w'.cell? ⟨g5, k, none⟩ = some (.int .i64 cv) ∧ w'.cell? ⟨b, f + i * 5, none⟩ = some (.string (B nm)) ∧ w'.cell? ⟨b, f + i * 5 + 1, none⟩ = some (.int .i64 pd) ∧ w'.cell? ⟨b, f + i * 5 + 2, none⟩ = some (.int .i64 dl) ∧ w'.cell? ⟨b, f + i * 5 + 3, none⟩ = some (.int .i64 bu) ∧ w'.cell? ⟨b, f + i * 5 + 4, none⟩ = some (.slice pa pr.length pc)) w4.drew := ⟨u2, cl, cp, cv1, t0, t1, t2, t3, t4⟩
                refine wp_region_held_drew (S := (fun w' : World => w'.cell? ⟨w.heap.size, 2, none⟩ = some (.slice (some ⟨b, f, none⟩) ts.length tc) ∧ w'.cell? ⟨g12, i, none⟩ = some (.int .i64 lv) ∧ w'.cell? ⟨gp, i, none⟩ = some (.int .i64 pe) ∧ w'.cell? ⟨g5, k, none⟩ = some (.int .i64 cv) ∧ w'.cell? ⟨b, f + i * 5, none⟩ = some (.string (B nm)) ∧ w'.cell? ⟨b, f + i * 5 + 1, none⟩ = some (.int .i64 pd) ∧ w'.cell? ⟨b, f + i * 5 + 2, none⟩ = some (.int .i64 dl) ∧ w'.cell? ⟨b, f + i * 5 + 3, none⟩ = some (.int .i64 bu) ∧ w'.cell? ⟨b, f + i * 5 + 4, none⟩ = some (.slice pa pr.length pc))) (by kernel_rfl) hS4 (fun _ => ?_)
                refine wpAnyH_take (i := 0) (v := .bool true) rfl (by kernel_rfl) (by kernel_rfl) (by kernel_rfl) (fun _ _ _ h => h) (.inl ⟨by kernel_rfl, fun wx hx => by kernel_rfl⟩) hS4 ?_
                refine wpAnyH_take (i := 1) (v := .bool true) rfl (by kernel_rfl) (by kernel_rfl) (by kernel_rfl) (fun _ _ _ h => h) (.inl ⟨by kernel_rfl, fun wx hx => by kernel_rfl⟩) hS4 ?_
                refine wpAnyH_take (i := 2) (v := .slice (some ⟨g5, 0, none⟩) N N) rfl (by kernel_rfl) (by kernel_rfl) (by kernel_rfl) (fun _ _ _ h => h) (.inl ⟨by kernel_rfl, fun wx hx => by kernel_rfl⟩) hS4 ?_
                refine wpAnyH_take (i := 3) (v := .int .i64 (k : Int)) rfl (by kernel_rfl) (by kernel_rfl) (by kernel_rfl) (fun _ _ _ h => h) (.inl ⟨by kernel_rfl, fun wx hx => by kernel_rfl⟩) hS4 ?_
                refine wpAnyH_take (i := 4) (v := .pointer (some ⟨g5, k, none⟩)) rfl (by kernel_rfl) (by kernel_rfl) (by kernel_rfl) (fun _ _ _ h => h) (.inl ⟨by kernel_rfl, fun wx hx => exec_idx (u := .slice (some ⟨g5, 0, none⟩) N N) (v := .int .i64 (k : Int)) (r := .pointer (some ⟨g5, k, none⟩)) rfl (by kernel_rfl) (by kernel_rfl) (by simp [go_sem, b1, b2])⟩) hS4 ?_
                refine wpAnyH_take (i := 5) (v := .int .i64 cv) rfl (by kernel_rfl) (by kernel_rfl) (by kernel_rfl) (fun _ _ _ h => h) (.inl ⟨by kernel_rfl, fun wx hx => exec_load (u := .pointer (some ⟨g5, k, none⟩)) (r := .int .i64 cv) rfl (by kernel_rfl) (by obtain ⟨_, _, _, hcv1, _, _, _, _, _⟩ := hx; simp [go_sem, hcv1])⟩) hS4 ?_
                refine wpAnyH_take (i := 6) (v := .slice (some ⟨gp, 0, none⟩) ts.length ts.length) rfl (by kernel_rfl) (by kernel_rfl) (by kernel_rfl) (fun _ _ _ h => h) (.inl ⟨by kernel_rfl, fun wx hx => by kernel_rfl⟩) hS4 ?_
                refine wpAnyH_take (i := 7) (v := .int .i64 (i : Int)) rfl (by kernel_rfl) (by kernel_rfl) (by kernel_rfl) (fun _ _ _ h => h) (.inl ⟨by kernel_rfl, fun wx hx => by kernel_rfl⟩) hS4 ?_
                refine wpAnyH_take (i := 8) (v := .pointer (some ⟨gp, i, none⟩)) rfl (by kernel_rfl) (by kernel_rfl) (by kernel_rfl) (fun _ _ _ h => h) (.inl ⟨by kernel_rfl, fun wx hx => exec_idx (u := .slice (some ⟨gp, 0, none⟩) ts.length ts.length) (v := .int .i64 (i : Int)) (r := .pointer (some ⟨gp, i, none⟩)) rfl (by kernel_rfl) (by kernel_rfl) (by simp [go_sem, b3, b4])⟩) hS4 ?_
                refine wpAnyH_take (i := 9) (v := .int .i64 pe) rfl (by kernel_rfl) (by kernel_rfl) (by kernel_rfl) (fun _ _ _ h => h) (.inl ⟨by kernel_rfl, fun wx hx => exec_load (u := .pointer (some ⟨gp, i, none⟩)) (r := .int .i64 pe) rfl (by kernel_rfl) (by obtain ⟨_, _, hcp, _, _, _, _, _, _⟩ := hx; simp [go_sem, hcp])⟩) hS4 ?_
                refine wpAnyH_take (i := 10) (v := .bool false) rfl (by kernel_rfl) (by kernel_rfl) (by kernel_rfl) (fun _ _ _ h => h) (.inl ⟨by kernel_rfl, fun wx hx => exec_bin (u := .int .i64 cv) (v := .int .i64 pe) (r := .bool false) rfl (by kernel_rfl) (by kernel_rfl) (by simp [go_sem]) (by simp [go_sem, ng1])⟩) hS4 ?_
                refine wpAnyH_take (i := 11) (v := .bool false) rfl (by kernel_rfl) (by kernel_rfl) (by kernel_rfl) (fun _ _ _ h => h) (.inl ⟨by kernel_rfl, fun wx hx => by kernel_rfl⟩) hS4 ?_
                refine wpAnyH_take (i := 12) (v := .bool false) rfl (by kernel_rfl) (by kernel_rfl) (by kernel_rfl) (fun _ _ _ h => h) (.inl ⟨by kernel_rfl, fun wx hx => by kernel_rfl⟩) hS4 ?_
                refine wpAnyH_take (i := 13) (v := .slice (some ⟨g12, 0, none⟩) ts.length ts.length) rfl (by kernel_rfl) (by kernel_rfl) (by kernel_rfl) (fun _ _ _ h => h) (.inl ⟨by kernel_rfl, fun wx hx => by kernel_rfl⟩) hS4 ?_
                refine wpAnyH_take (i := 14) (v := .int .i64 (i : Int)) rfl (by kernel_rfl) (by kernel_rfl) (by kernel_rfl) (fun _ _ _ h => h) (.inl ⟨by kernel_rfl, fun wx hx => by kernel_rfl⟩) hS4 ?_
                refine wpAnyH_take (i := 15) (v := .pointer (some ⟨g12, i, none⟩)) rfl (by kernel_rfl) (by kernel_rfl) (by kernel_rfl) (fun _ _ _ h => h) (.inl ⟨by kernel_rfl, fun wx hx => exec_idx (u := .slice (some ⟨g12, 0, none⟩) ts.length ts.length) (v := .int .i64 (i : Int)) (r := .pointer (some ⟨g12, i, none⟩)) rfl (by kernel_rfl) (by kernel_rfl) (by simp [go_sem, b3, b4])⟩) hS4 ?_
                refine wpAnyH_take (i := 16) (v := .int .i64 lv) rfl (by kernel_rfl) (by kernel_rfl) (by kernel_rfl) (fun _ _ _ h => h) (.inl ⟨by kernel_rfl, fun wx hx => exec_load (u := .pointer (some ⟨g12, i, none⟩)) (r := .int .i64 lv) rfl (by kernel_rfl) (by obtain ⟨_, hcl, _, _, _, _, _, _, _⟩ := hx; simp [go_sem, hcl])⟩) hS4 ?_
                refine wpAnyH_take (i := 17) (v := .pointer (some ⟨w.heap.size, 2, none⟩)) rfl (by kernel_rfl) (by kernel_rfl) (by kernel_rfl) (fun _ _ _ h => h) (.inl ⟨by kernel_rfl, fun wx hx => by kernel_rfl⟩) hS4 ?_
                refine wpAnyH_take (i := 18) (v := .slice (some ⟨b, f, none⟩) ts.length tc) rfl (by kernel_rfl) (by kernel_rfl) (by kernel_rfl) (fun _ _ _ h => h) (.inl ⟨by kernel_rfl, fun wx hx => exec_load (u := .pointer (some ⟨w.heap.size, 2, none⟩)) (r := .slice (some ⟨b, f, none⟩) ts.length tc) rfl (by kernel_rfl) (by obtain ⟨hu2, _, _, _, _, _, _, _, _⟩ := hx; simp [go_sem, hu2])⟩) hS4 ?_
                refine wpAnyH_take (i := 19) (v := .int .i64 (i : Int)) rfl (by kernel_rfl) (by kernel_rfl) (by kernel_rfl) (fun _ _ _ h => h) (.inl ⟨by kernel_rfl, fun wx hx => by kernel_rfl⟩) hS4 ?_
                refine wpAnyH_take (i := 20) (v := .pointer (some ⟨b, f + i * 5, none⟩)) rfl (by kernel_rfl) (by kernel_rfl) (by kernel_rfl) (fun _ _ _ h => h) (.inl ⟨by kernel_rfl, fun wx hx => exec_idx (u := .slice (some ⟨b, f, none⟩) ts.length tc) (v := .int .i64 (i : Int)) (r := .pointer (some ⟨b, f + i * 5, none⟩)) rfl (by kernel_rfl) (by kernel_rfl) (by simp [go_sem, b3, b4])⟩) hS4 ?_
                refine wpAnyH_take (i := 21) (v := .agg #[.string (B nm), .int .i64 pd, .int .i64 dl, .int .i64 bu, .slice pa pr.length pc]) rfl (by kernel_rfl) (by kernel_rfl) (by kernel_rfl) (fun _ _ _ h => h) (.inl ⟨by kernel_rfl, fun wx hx => exec_load (u := .pointer (some ⟨b, f + i * 5, none⟩)) (r := .agg #[.string (B nm), .int .i64 pd, .int .i64 dl, .int .i64 bu, .slice pa pr.length pc]) rfl (by kernel_rfl) (by obtain ⟨_, _, _, _, ht0, ht1, ht2, ht3, ht4⟩ := hx; simp [go_sem, ht0, ht1, ht2, ht3, ht4])⟩) hS4 ?_
                refine wpAnyH_call (i := 22) (f := 16) (vals := #[.agg #[.string (B nm), .int .i64 pd, .int .i64 dl, .int .i64 bu, .slice pa pr.length pc]]) rfl (by kernel_rfl) (by kernel_rfl) (by kernel_rfl) ((HND.out.run _ KD4).mono ?_)
                rintro e w6 ⟨rfl, T6⟩
                have M6 := ((Kept.refl w4).drew).trans T6
                have hS6 : (fun w' : World => w'.cell? ⟨w.heap.size, 2, none⟩ = some (.slice (some ⟨b, f, none⟩) ts.length tc) ∧ w'.cell? ⟨g12, i, none⟩ = some (.int .i64 lv) ∧ w'.cell? ⟨gp, i, none⟩ = some (.int .i64 pe) ∧ w'.cell? ⟨g5, k, none⟩ = some (.int .i64 cv) ∧ w'.cell? ⟨b, f + i * 5, none⟩ = some (.string (B nm)) ∧ w'.cell? ⟨b, f + i * 5 + 1, none⟩ = some (.int .i64 pd) ∧ w'.cell? ⟨b, f + i * 5 + 2, none⟩ = some (.int .i64 dl) ∧ w'.cell? ⟨b, f + i * 5 + 3, none⟩ = some (.int .i64 bu) ∧ w'.cell? ⟨b, f + i * 5 + 4, none⟩ = some (.slice pa pr.length pc)) w6 := ⟨M6.cell u2, M6.cell cl, M6.cell cp, M6.cell cv1, M6.cell t0, M6.cell t1, M6.cell t2, M6.cell t3, M6.cell t4⟩
                refine ⟨_, rfl, hS6, ?_⟩
                refine wpAnyH_take (i := 23) (v := .bool false) rfl (by kernel_rfl) (by kernel_rfl) (by kernel_rfl) (fun _ _ _ h => h) (.inl ⟨by kernel_rfl, fun wx hx => exec_bin (u := .int .i64 lv) (v := .int .i64 nd) (r := .bool false) rfl (by kernel_rfl) (by kernel_rfl) (by simp [go_sem]) (by simp [go_sem, ng2])⟩) hS6 ?_
                refine wpAnyH_take (i := 24) (v := .bool false) rfl (by kernel_rfl) (by kernel_rfl) (by kernel_rfl) (fun _ _ _ h => h) (.inl ⟨by kernel_rfl, fun wx hx => by kernel_rfl⟩) hS6 ?_
                refine wpAnyH_take (i := 25) (v := .bool false) rfl (by kernel_rfl) (by kernel_rfl) (by kernel_rfl) (fun _ _ _ h => h) (.inl ⟨by kernel_rfl, fun wx hx => by kernel_rfl⟩) hS6 ?_
                refine wpAnyH_take (i := 26) (v := .bool true) rfl (by kernel_rfl) (by kernel_rfl) (by kernel_rfl) (fun _ _ _ h => h) (.inl ⟨by kernel_rfl, fun wx hx => by kernel_rfl⟩) hS6 ?_
                refine wpAnyH_take (i := 27) (v := .bool false) rfl (by kernel_rfl) (by kernel_rfl) (by kernel_rfl) (fun _ _ _ h => h) (.inl ⟨by kernel_rfl, fun wx hx => by kernel_rfl⟩) hS6 ?_
                refine wpAnyH_take (i := 28) (v := .bool false) rfl (by kernel_rfl) (by kernel_rfl) (by kernel_rfl) (fun _ _ _ h => h) (.inl ⟨by kernel_rfl, fun wx hx => by kernel_rfl⟩) hS6 ?_
                refine wpAnyH_take (i := 29) (v := undef) rfl (by kernel_rfl) (by kernel_rfl) (by kernel_rfl) (fun _ _ _ h => h) (.inr ⟨by kernel_rfl, rfl⟩) hS6 ?_
                refine wpAnyH_take (i := 30) (v := undef) rfl (by kernel_rfl) (by kernel_rfl) (by kernel_rfl) (fun _ _ _ h => h) (.inr ⟨by kernel_rfl, rfl⟩) hS6 ?_
                refine wpAnyH_take (i := 31) (v := undef) rfl (by kernel_rfl) (by kernel_rfl) (by kernel_rfl) (fun _ _ _ h => h) (.inr ⟨by kernel_rfl, rfl⟩) hS6 ?_
                refine wpAnyH_take (i := 32) (v := undef) rfl (by kernel_rfl) (by kernel_rfl) (by kernel_rfl) (fun _ _ _ h => h) (.inr ⟨by kernel_rfl, rfl⟩) hS6 ?_
                refine wpAnyH_take (i := 33) (v := undef) rfl (by kernel_rfl) (by kernel_rfl) (by kernel_rfl) (fun _ _ _ h => h) (.inr ⟨by kernel_rfl, rfl⟩) hS6 ?_
                refine wpAnyH_take (i := 34) (v := .bool false) rfl (by kernel_rfl) (by kernel_rfl) (by kernel_rfl) (fun _ _ _ h => h) (.inl ⟨by kernel_rfl, fun wx hx => by kernel_rfl⟩) hS6 ?_
                refine wpAnyH_take (i := 35) (v := .bool false) rfl (by kernel_rfl) (by kernel_rfl) (by kernel_rfl) (fun _ _ _ h => h) (.inl ⟨by kernel_rfl, fun wx hx => by kernel_rfl⟩) hS6 ?_
                refine wpAnyH_done (by kernel_rfl) ?_ _
                refine hkz _ _ ?_
                refine act_eq (b := { tmps := #[Value.agg #[Value.int IntKind.i64 ↑N, Value.slice ca cs.length cc, Value.slice (some { block := b, off := f }) ts.length tc], Value.int IntKind.i64 lock, Value.pointer (some { block := w.heap.size, off := 0 }), undef, u4, Value.int IntKind.i64 ↑q1, Value.int IntKind.i64 0, Value.pointer (some { block := xb, off := 0 }), Value.slice (some { block := g5, off := 0 }) N N, Value.slice (some { block := gp, off := 0 }) ts.length ts.length, Value.int IntKind.i64 ↑k, Value.slice (some { block := g12, off := 0 }) ts.length ts.length, Value.bool ob, Value.int IntKind.i64 ↑i, Value.bool true, Value.slice la m.length lc, Value.int IntKind.i64 ↑j, Value.bool true, Value.bool false, Value.tuple #[Value.int IntKind.i64 ↑q1, Value.int IntKind.i64 0], Value.agg #[Value.int IntKind.i64 ↑N, Value.slice ca cs.length cc, Value.slice (some { block := b, off := f }) ts.length tc], Value.tuple #[Value.int IntKind.i64 ↑q1, Value.int IntKind.i64 0], Value.int IntKind.i64 ↑q1, Value.int IntKind.i64 0, Value.agg #[Value.int IntKind.i64 ↑N, Value.slice ca cs.length cc, Value.slice (some { block := b, off := f }) ts.length tc], Value.bool true, Value.bool false, Value.bool false, Value.int IntKind.i64 0, Value.bool false, Value.bool false, Value.agg #[Value.int IntKind.i64 ↑N, Value.slice ca cs.length cc, Value.slice (some { block := b, off := f }) ts.length tc], Value.agg #[Value.int IntKind.i64 ↑N, Value.slice xa cs.length xc, Value.slice ya ts.length yc], Value.agg #[Value.int IntKind.i64 ↑N, Value.slice xa cs.length xc, Value.slice ya ts.length yc], Value.slice (some { block := g5, off := 0 }) N N, Value.slice (some { block := g5, off := 0 }) N N, Value.agg #[Value.int IntKind.i64 ↑N, Value.slice ca cs.length cc, Value.slice (some { block := b, off := f }) ts.length tc], Value.slice (some { block := g6, off := 0 }) N N, Value.bool true, Value.bool false, Value.bool false, Value.agg #[Value.int IntKind.i64 ↑N, Value.slice xa cs.length xc, Value.slice ya ts.length yc], Value.int IntKind.i64 lock, Value.slice va sl.length vc, Value.agg #[Value.int IntKind.i64 ↑N, Value.slice ca cs.length cc, Value.slice (some { block := b, off := f }) ts.length tc], Value.int IntKind.i64 lock, Value.slice vb sl.length vd, Value.bool true, Value.bool false, Value.bool false, Value.agg #[Value.int IntKind.i64 ↑N, Value.slice xa cs.length xc, Value.slice ya ts.length yc], Value.slice (some { block := gp, off := 0 }) ts.length ts.length, Value.slice (some { block := gp, off := 0 }) ts.length ts.length, Value.int IntKind.i64 ↑ts.length, Value.pointer (some { block := w.heap.size, off := 2 }), Value.slice (some { block := b, off := f }) ts.length tc, Value.int IntKind.i64 ↑ts.length, Value.bool false, Value.int IntKind.i64 ↑k, Value.slice (some { block := g5, off := 0 }) N N, Value.int IntKind.i64 ↑N, Value.bool true, u62, u63, Value.agg #[Value.int IntKind.i64 ↑N, Value.slice xa cs.length xc, Value.slice ya ts.length yc], Value.int IntKind.i64 ↑k, Value.slice (some { block := g12, off := 0 }) ts.length ts.length, Value.slice (some { block := g12, off := 0 }) ts.length ts.length, Value.int IntKind.i64 ↑ts.length, Value.pointer (some { block := w.heap.size, off := 2 }), Value.slice (some { block := b, off := f }) ts.length tc, Value.int IntKind.i64 ↑ts.length, Value.bool false, Value.slice (some { block := g5, off := 0 }) N N, Value.int IntKind.i64 ↑k, Value.pointer (some { block := g5, off := k }), Value.int IntKind.i64 cv, Value.bool (cv == 0), Value.int IntKind.i64 ↑i, Value.pointer (some { block := w.heap.size, off := 2 }), Value.slice (some { block := b, off := f }) ts.length tc, Value.int IntKind.i64 ↑ts.length, Value.bool true, u83, u84, Value.pointer (some { block := w.heap.size, off := 2 }), Value.slice (some { block := b, off := f }) ts.length tc, Value.int IntKind.i64 ↑i, Value.pointer (some { block := b, off := f + i * 5 }), Value.pointer (some { block := b, off := f + i * 5 + 4 }), Value.slice pa pr.length pc, Value.slice la m.length lc, Value.int IntKind.i64 ↑j, Value.slice la m.length lc, Value.int IntKind.i64 ↑m.length, Value.bool false, u96, u97, u98, u99, u100, u101, u102, u103, u104, u105, u106, Value.bool true, Value.bool true, Value.slice (some ⟨g5, 0, none⟩) N N, Value.int IntKind.i64 (k : Int), Value.pointer (some ⟨g5, k, none⟩), Value.int IntKind.i64 cv, Value.slice (some ⟨gp, 0, none⟩) ts.length ts.length, Value.int IntKind.i64 (i : Int), Value.pointer (some ⟨gp, i, none⟩), Value.int IntKind.i64 pe, Value.bool false, Value.bool false, Value.bool false, Value.slice (some ⟨g12, 0, none⟩) ts.length ts.length, Value.int IntKind.i64 (i : Int), Value.pointer (some ⟨g12, i, none⟩), Value.int IntKind.i64 lv, Value.pointer (some ⟨w.heap.size, 2, none⟩), Value.slice (some ⟨b, f, none⟩) ts.length tc, Value.int IntKind.i64 (i : Int), Value.pointer (some ⟨b, f + i * 5, none⟩), Value.agg #[Value.string (B nm), Value.int IntKind.i64 pd, Value.int IntKind.i64 dl, Value.int IntKind.i64 bu, Value.slice pa pr.length pc], Value.int IntKind.i64 nd, Value.bool false, Value.bool false, Value.bool false, Value.bool true, Value.bool false, Value.bool false, undef, undef, undef, undef, undef, Value.bool false, Value.bool false, u143, u144, u145, u146, u147, u148, u149, u150, u151, u152, u153, u154, u155, u156, u157, u158, u159], defers := [] }) (by kernel_rfl) ?_
                have zcv1 := M6.cell cv1
                have zcp := M6.cell cp
                clear hkz hS4 hS6 ng1 ng2 u2 cl t0 t1 t2 t3 t4 cp cv1 KD4 T6
                go_wp2_with fail
                cases ob with
                | true =>
                  go_big_region
                  all_goals go_wp2_with fail
                  go_roundg gi
                  case rel => exact ⟨i + 1, _, rfl, by go_num, by rw [HON.out]; rfl, by omega, (HK2.out.trans (HK4.out.trans M6)).drew⟩
                  case measure => omega
                | false =>
                  obtain ⟨q, hq⟩ : ∃ z, (cv == pe) = z := ⟨_, rfl⟩
                  rw [hq] at HON
                  go_big_region
                  all_goals go_wp2_with fail
                  go_roundg gi
                  case rel => exact ⟨i + 1, _, rfl, by go_num, by rw [HON.out]; rfl, by omega, (HK2.out.trans (HK4.out.trans M6)).drew⟩
                  case measure => omega
              | false =>
                have hl0 := hn2 rfl
                subst hl0
                go_wp2_with fail
                have ng2 : ¬ nd < 0 := by omega
                clear hn0 hn1 hn2 hn3 cp cv1
                rename_i KZ hkz
                have hS4 : (fun w' : World => w'.cell? ⟨w.heap.size, 2, none⟩ = some (.slice (some ⟨b, f, none⟩) ts.length tc) ∧ w'.cell? ⟨g12, i, none⟩ = some (.int .i64 0) ∧ w'.cell? ⟨b, f + i * 5, none⟩ = some (.string (B nm)) ∧ w'.cell? ⟨b, f + i * 5 + 1, none⟩ = some (.int .i64 pd) ∧ w'.cell? ⟨b, f + i * 5 + 2, none⟩ = some (.int .i64 dl) ∧ w'.cell? ⟨b, f + i * 5 + 3, none⟩ = some (.int .i64 bu) ∧ w'.cell? ⟨b, f + i * 5 + 4, none⟩ = some (.slice pa pr.length pc)) w4.drew := ⟨u2, cl, t0, t1, t2, t3, t4⟩
                refine wp_region_held_drew (S := (fun w' : World => w'.cell? ⟨w.heap.size, 2, none⟩ = some (.slice (some ⟨b, f, none⟩) ts.length tc) ∧ w'.cell? ⟨g12, i, none⟩ = some (.int .i64 0) ∧ w'.cell? ⟨b, f + i * 5, none⟩ = some (.string (B nm)) ∧ w'.cell? ⟨b, f + i * 5 + 1, none⟩ = some (.int .i64 pd) ∧ w'.cell? ⟨b, f + i * 5 + 2, none⟩ = some (.int .i64 dl) ∧ w'.cell? ⟨b, f + i * 5 + 3, none⟩ = some (.int .i64 bu) ∧ w'.cell? ⟨b, f + i * 5 + 4, none⟩ = some (.slice pa pr.length pc))) (by kernel_rfl) hS4 (fun _ => ?_)
                refine wpAnyH_take (i := 0) (v := .bool false) rfl (by kernel_rfl) (by kernel_rfl) (by kernel_rfl) (fun _ _ _ h => h) (.inl ⟨by kernel_rfl, fun wx hx => by kernel_rfl⟩) hS4 ?_
                refine wpAnyH_take (i := 1) (v := .bool false) rfl (by kernel_rfl) (by kernel_rfl) (by kernel_rfl) (fun _ _ _ h => h) (.inl ⟨by kernel_rfl, fun wx hx => by kernel_rfl⟩) hS4 ?_
                refine wpAnyH_take (i := 2) (v := undef) rfl (by kernel_rfl) (by kernel_rfl) (by kernel_rfl) (fun _ _ _ h => h) (.inr ⟨by kernel_rfl, rfl⟩) hS4 ?_
                refine wpAnyH_take (i := 3) (v := undef) rfl (by kernel_rfl) (by kernel_rfl) (by kernel_rfl) (fun _ _ _ h => h) (.inr ⟨by kernel_rfl, rfl⟩) hS4 ?_
                refine wpAnyH_take (i := 4) (v := undef) rfl (by kernel_rfl) (by kernel_rfl) (by kernel_rfl) (fun _ _ _ h => h) (.inr ⟨by kernel_rfl, rfl⟩) hS4 ?_
                refine wpAnyH_take (i := 5) (v := undef) rfl (by kernel_rfl) (by kernel_rfl) (by kernel_rfl) (fun _ _ _ h => h) (.inr ⟨by kernel_rfl, rfl⟩) hS4 ?_
                refine wpAnyH_take (i := 6) (v := undef) rfl (by kernel_rfl) (by kernel_rfl) (by kernel_rfl) (fun _ _ _ h => h) (.inr ⟨by kernel_rfl, rfl⟩) hS4 ?_
                refine wpAnyH_take (i := 7) (v := undef) rfl (by kernel_rfl) (by kernel_rfl) (by kernel_rfl) (fun _ _ _ h => h) (.inr ⟨by kernel_rfl, rfl⟩) hS4 ?_
                refine wpAnyH_take (i := 8) (v := undef) rfl (by kernel_rfl) (by kernel_rfl) (by kernel_rfl) (fun _ _ _ h => h) (.inr ⟨by kernel_rfl, rfl⟩) hS4 ?_
                refine wpAnyH_take (i := 9) (v := undef) rfl (by kernel_rfl) (by kernel_rfl) (by kernel_rfl) (fun _ _ _ h => h) (.inr ⟨by kernel_rfl, rfl⟩) hS4 ?_
                refine wpAnyH_take (i := 10) (v := undef) rfl (by kernel_rfl) (by kernel_rfl) (by kernel_rfl) (fun _ _ _ h => h) (.inr ⟨by kernel_rfl, rfl⟩) hS4 ?_
                refine wpAnyH_take (i := 11) (v := .bool false) rfl (by kernel_rfl) (by kernel_rfl) (by kernel_rfl) (fun _ _ _ h => h) (.inl ⟨by kernel_rfl, fun wx hx => by kernel_rfl⟩) hS4 ?_
                refine wpAnyH_take (i := 12) (v := .bool false) rfl (by kernel_rfl) (by kernel_rfl) (by kernel_rfl) (fun _ _ _ h => h) (.inl ⟨by kernel_rfl, fun wx hx => by kernel_rfl⟩) hS4 ?_
                refine wpAnyH_take (i := 13) (v := .slice (some ⟨g12, 0, none⟩) ts.length ts.length) rfl (by kernel_rfl) (by kernel_rfl) (by kernel_rfl) (fun _ _ _ h => h) (.inl ⟨by kernel_rfl, fun wx hx => by kernel_rfl⟩) hS4 ?_
                refine wpAnyH_take (i := 14) (v := .int .i64 (i : Int)) rfl (by kernel_rfl) (by kernel_rfl) (by kernel_rfl) (fun _ _ _ h => h) (.inl ⟨by kernel_rfl, fun wx hx => by kernel_rfl⟩) hS4 ?_
                refine wpAnyH_take (i := 15) (v := .pointer (some ⟨g12, i, none⟩)) rfl (by kernel_rfl) (by kernel_rfl) (by kernel_rfl) (fun _ _ _ h => h) (.inl ⟨by kernel_rfl, fun wx hx => exec_idx (u := .slice (some ⟨g12, 0, none⟩) ts.length ts.length) (v := .int .i64 (i : Int)) (r := .pointer (some ⟨g12, i, none⟩)) rfl (by kernel_rfl) (by kernel_rfl) (by simp [go_sem, b3, b4])⟩) hS4 ?_
                refine wpAnyH_take (i := 16) (v := .int .i64 0) rfl (by kernel_rfl) (by kernel_rfl) (by kernel_rfl) (fun _ _ _ h => h) (.inl ⟨by kernel_rfl, fun wx hx => exec_load (u := .pointer (some ⟨g12, i, none⟩)) (r := .int .i64 0) rfl (by kernel_rfl) (by obtain ⟨_, hcl, _, _, _, _, _⟩ := hx; simp [go_sem, hcl])⟩) hS4 ?_
                refine wpAnyH_take (i := 17) (v := .pointer (some ⟨w.heap.size, 2, none⟩)) rfl (by kernel_rfl) (by kernel_rfl) (by kernel_rfl) (fun _ _ _ h => h) (.inl ⟨by kernel_rfl, fun wx hx => by kernel_rfl⟩) hS4 ?_
                refine wpAnyH_take (i := 18) (v := .slice (some ⟨b, f, none⟩) ts.length tc) rfl (by kernel_rfl) (by kernel_rfl) (by kernel_rfl) (fun _ _ _ h => h) (.inl ⟨by kernel_rfl, fun wx hx => exec_load (u := .pointer (some ⟨w.heap.size, 2, none⟩)) (r := .slice (some ⟨b, f, none⟩) ts.length tc) rfl (by kernel_rfl) (by obtain ⟨hu2, _, _, _, _, _, _⟩ := hx; simp [go_sem, hu2])⟩) hS4 ?_
                refine wpAnyH_take (i := 19) (v := .int .i64 (i : Int)) rfl (by kernel_rfl) (by kernel_rfl) (by kernel_rfl) (fun _ _ _ h => h) (.inl ⟨by kernel_rfl, fun wx hx => by kernel_rfl⟩) hS4 ?_
                refine wpAnyH_take (i := 20) (v := .pointer (some ⟨b, f + i * 5, none⟩)) rfl (by kernel_rfl) (by kernel_rfl) (by kernel_rfl) (fun _ _ _ h => h) (.inl ⟨by kernel_rfl, fun wx hx => exec_idx (u := .slice (some ⟨b, f, none⟩) ts.length tc) (v := .int .i64 (i : Int)) (r := .pointer (some ⟨b, f + i * 5, none⟩)) rfl (by kernel_rfl) (by kernel_rfl) (by simp [go_sem, b3, b4])⟩) hS4 ?_
                refine wpAnyH_take (i := 21) (v := .agg #[.string (B nm), .int .i64 pd, .int .i64 dl, .int .i64 bu, .slice pa pr.length pc]) rfl (by kernel_rfl) (by kernel_rfl) (by kernel_rfl) (fun _ _ _ h => h) (.inl ⟨by kernel_rfl, fun wx hx => exec_load (u := .pointer (some ⟨b, f + i * 5, none⟩)) (r := .agg #[.string (B nm), .int .i64 pd, .int .i64 dl, .int .i64 bu, .slice pa pr.length pc]) rfl (by kernel_rfl) (by obtain ⟨_, _, ht0, ht1, ht2, ht3, ht4⟩ := hx; simp [go_sem, ht0, ht1, ht2, ht3, ht4])⟩) hS4 ?_
                refine wpAnyH_call (i := 22) (f := 16) (vals := #[.agg #[.string (B nm), .int .i64 pd, .int .i64 dl, .int .i64 bu, .slice pa pr.length pc]]) rfl (by kernel_rfl) (by kernel_rfl) (by kernel_rfl) ((HND.out.run _ KD4).mono ?_)
                rintro e w6 ⟨rfl, T6⟩
                have M6 := ((Kept.refl w4).drew).trans T6
                have hS6 : (fun w' : World => w'.cell? ⟨w.heap.size, 2, none⟩ = some (.slice (some ⟨b, f, none⟩) ts.length tc) ∧ w'.cell? ⟨g12, i, none⟩ = some (.int .i64 0) ∧ w'.cell? ⟨b, f + i * 5, none⟩ = some (.string (B nm)) ∧ w'.cell? ⟨b, f + i * 5 + 1, none⟩ = some (.int .i64 pd) ∧ w'.cell? ⟨b, f + i * 5 + 2, none⟩ = some (.int .i64 dl) ∧ w'.cell? ⟨b, f + i * 5 + 3, none⟩ = some (.int .i64 bu) ∧ w'.cell? ⟨b, f + i * 5 + 4, none⟩ = some (.slice pa pr.length pc)) w6 := ⟨M6.cell u2, M6.cell cl, M6.cell t0, M6.cell t1, M6.cell t2, M6.cell t3, M6.cell t4⟩
                refine ⟨_, rfl, hS6, ?_⟩
                refine wpAnyH_take (i := 23) (v := .bool false) rfl (by kernel_rfl) (by kernel_rfl) (by kernel_rfl) (fun _ _ _ h => h) (.inl ⟨by kernel_rfl, fun wx hx => exec_bin (u := .int .i64 0) (v := .int .i64 nd) (r := .bool false) rfl (by kernel_rfl) (by kernel_rfl) (by simp [go_sem]) (by simp [go_sem, ng2])⟩) hS6 ?_
                refine wpAnyH_take (i := 24) (v := .bool false) rfl (by kernel_rfl) (by kernel_rfl) (by kernel_rfl) (fun _ _ _ h => h) (.inl ⟨by kernel_rfl, fun wx hx => by kernel_rfl⟩) hS6 ?_
                refine wpAnyH_take (i := 25) (v := .bool false) rfl (by kernel_rfl) (by kernel_rfl) (by kernel_rfl) (fun _ _ _ h => h) (.inl ⟨by kernel_rfl, fun wx hx => by kernel_rfl⟩) hS6 ?_
                refine wpAnyH_take (i := 26) (v := .bool false) rfl (by kernel_rfl) (by kernel_rfl) (by kernel_rfl) (fun _ _ _ h => h) (.inl ⟨by kernel_rfl, fun wx hx => by kernel_rfl⟩) hS6 ?_
                refine wpAnyH_take (i := 27) (v := .bool true) rfl (by kernel_rfl) (by kernel_rfl) (by kernel_rfl) (fun _ _ _ h => h) (.inl ⟨by kernel_rfl, fun wx hx => by kernel_rfl⟩) hS6 ?_
                refine wpAnyH_take (i := 28) (v := .bool true) rfl (by kernel_rfl) (by kernel_rfl) (by kernel_rfl) (fun _ _ _ h => h) (.inl ⟨by kernel_rfl, fun wx hx => by kernel_rfl⟩) hS6 ?_
                refine wpAnyH_take (i := 29) (v := .slice (some ⟨g12, 0, none⟩) ts.length ts.length) rfl (by kernel_rfl) (by kernel_rfl) (by kernel_rfl) (fun _ _ _ h => h) (.inl ⟨by kernel_rfl, fun wx hx => by kernel_rfl⟩) hS6 ?_
                refine wpAnyH_take (i := 30) (v := .int .i64 (i : Int)) rfl (by kernel_rfl) (by kernel_rfl) (by kernel_rfl) (fun _ _ _ h => h) (.inl ⟨by kernel_rfl, fun wx hx => by kernel_rfl⟩) hS6 ?_
                refine wpAnyH_take (i := 31) (v := .pointer (some ⟨g12, i, none⟩)) rfl (by kernel_rfl) (by kernel_rfl) (by kernel_rfl) (fun _ _ _ h => h) (.inl ⟨by kernel_rfl, fun wx hx => exec_idx (u := .slice (some ⟨g12, 0, none⟩) ts.length ts.length) (v := .int .i64 (i : Int)) (r := .pointer (some ⟨g12, i, none⟩)) rfl (by kernel_rfl) (by kernel_rfl) (by simp [go_sem, b3, b4])⟩) hS6 ?_
                refine wpAnyH_take (i := 32) (v := .int .i64 0) rfl (by kernel_rfl) (by kernel_rfl) (by kernel_rfl) (fun _ _ _ h => h) (.inl ⟨by kernel_rfl, fun wx hx => exec_load (u := .pointer (some ⟨g12, i, none⟩)) (r := .int .i64 0) rfl (by kernel_rfl) (by obtain ⟨_, hcl, _, _, _, _, _⟩ := hx; simp [go_sem, hcl])⟩) hS6 ?_
                refine wpAnyH_take (i := 33) (v := .bool false) rfl (by kernel_rfl) (by kernel_rfl) (by kernel_rfl) (fun _ _ _ h => h) (.inl ⟨by kernel_rfl, fun wx hx => exec_bin (u := .int .i64 0) (v := .int .i64 0) (r := .bool false) rfl (by kernel_rfl) (by kernel_rfl) (by simp [go_sem]) (by simp [go_sem])⟩) hS6 ?_
                refine wpAnyH_take (i := 34) (v := .bool false) rfl (by kernel_rfl) (by kernel_rfl) (by kernel_rfl) (fun _ _ _ h => h) (.inl ⟨by kernel_rfl, fun wx hx => by kernel_rfl⟩) hS6 ?_
                refine wpAnyH_take (i := 35) (v := .bool false) rfl (by kernel_rfl) (by kernel_rfl) (by kernel_rfl) (fun _ _ _ h => h) (.inl ⟨by kernel_rfl, fun wx hx => by kernel_rfl⟩) hS6 ?_
                refine wpAnyH_done (by kernel_rfl) ?_ _
                refine hkz _ _ ?_
                refine act_eq (b := { tmps := #[Value.agg #[Value.int IntKind.i64 ↑N, Value.slice ca cs.length cc, Value.slice (some { block := b, off := f }) ts.length tc], Value.int IntKind.i64 lock, Value.pointer (some { block := w.heap.size, off := 0 }), undef, u4, Value.int IntKind.i64 ↑q1, Value.int IntKind.i64 0, Value.pointer (some { block := xb, off := 0 }), Value.slice (some { block := g5, off := 0 }) N N, Value.slice (some { block := gp, off := 0 }) ts.length ts.length, Value.int IntKind.i64 ↑k, Value.slice (some { block := g12, off := 0 }) ts.length ts.length, Value.bool ob, Value.int IntKind.i64 ↑i, Value.bool false, Value.slice la m.length lc, Value.int IntKind.i64 ↑j, Value.bool true, Value.bool false, Value.tuple #[Value.int IntKind.i64 ↑q1, Value.int IntKind.i64 0], Value.agg #[Value.int IntKind.i64 ↑N, Value.slice ca cs.length cc, Value.slice (some { block := b, off := f }) ts.length tc], Value.tuple #[Value.int IntKind.i64 ↑q1, Value.int IntKind.i64 0], Value.int IntKind.i64 ↑q1, Value.int IntKind.i64 0, Value.agg #[Value.int IntKind.i64 ↑N, Value.slice ca cs.length cc, Value.slice (some { block := b, off := f }) ts.length tc], Value.bool true, Value.bool false, Value.bool false, Value.int IntKind.i64 0, Value.bool false, Value.bool false, Value.agg #[Value.int IntKind.i64 ↑N, Value.slice ca cs.length cc, Value.slice (some { block := b, off := f }) ts.length tc], Value.agg #[Value.int IntKind.i64 ↑N, Value.slice xa cs.length xc, Value.slice ya ts.length yc], Value.agg #[Value.int IntKind.i64 ↑N, Value.slice xa cs.length xc, Value.slice ya ts.length yc], Value.slice (some { block := g5, off := 0 }) N N, Value.slice (some { block := g5, off := 0 }) N N, Value.agg #[Value.int IntKind.i64 ↑N, Value.slice ca cs.length cc, Value.slice (some { block := b, off := f }) ts.length tc], Value.slice (some { block := g6, off := 0 }) N N, Value.bool true, Value.bool false, Value.bool false, Value.agg #[Value.int IntKind.i64 ↑N, Value.slice xa cs.length xc, Value.slice ya ts.length yc], Value.int IntKind.i64 lock, Value.slice va sl.length vc, Value.agg #[Value.int IntKind.i64 ↑N, Value.slice ca cs.length cc, Value.slice (some { block := b, off := f }) ts.length tc], Value.int IntKind.i64 lock, Value.slice vb sl.length vd, Value.bool true, Value.bool false, Value.bool false, Value.agg #[Value.int IntKind.i64 ↑N, Value.slice xa cs.length xc, Value.slice ya ts.length yc], Value.slice (some { block := gp, off := 0 }) ts.length ts.length, Value.slice (some { block := gp, off := 0 }) ts.length ts.length, Value.int IntKind.i64 ↑ts.length, Value.pointer (some { block := w.heap.size, off := 2 }), Value.slice (some { block := b, off := f }) ts.length tc, Value.int IntKind.i64 ↑ts.length, Value.bool false, Value.int IntKind.i64 ↑k, Value.slice (some { block := g5, off := 0 }) N N, Value.int IntKind.i64 ↑N, Value.bool true, u62, u63, Value.agg #[Value.int IntKind.i64 ↑N, Value.slice xa cs.length xc, Value.slice ya ts.length yc], Value.int IntKind.i64 ↑k, Value.slice (some { block := g12, off := 0 }) ts.length ts.length, Value.slice (some { block := g12, off := 0 }) ts.length ts.length, Value.int IntKind.i64 ↑ts.length, Value.pointer (some { block := w.heap.size, off := 2 }), Value.slice (some { block := b, off := f }) ts.length tc, Value.int IntKind.i64 ↑ts.length, Value.bool false, Value.slice (some { block := g5, off := 0 }) N N, Value.int IntKind.i64 ↑k, Value.pointer (some { block := g5, off := k }), Value.int IntKind.i64 cv, Value.bool (cv == 0), Value.int IntKind.i64 ↑i, Value.pointer (some { block := w.heap.size, off := 2 }), Value.slice (some { block := b, off := f }) ts.length tc, Value.int IntKind.i64 ↑ts.length, Value.bool true, u83, u84, Value.pointer (some { block := w.heap.size, off := 2 }), Value.slice (some { block := b, off := f }) ts.length tc, Value.int IntKind.i64 ↑i, Value.pointer (some { block := b, off := f + i * 5 }), Value.pointer (some { block := b, off := f + i * 5 + 4 }), Value.slice pa pr.length pc, Value.slice la m.length lc, Value.int IntKind.i64 ↑j, Value.slice la m.length lc, Value.int IntKind.i64 ↑m.length, Value.bool false, u96, u97, u98, u99, u100, u101, u102, u103, u104, u105, u106, Value.bool false, Value.bool false, undef, undef, undef, undef, undef, undef, undef, undef, undef, Value.bool false, Value.bool false, Value.slice (some ⟨g12, 0, none⟩) ts.length ts.length, Value.int IntKind.i64 (i : Int), Value.pointer (some ⟨g12, i, none⟩), Value.int IntKind.i64 0, Value.pointer (some ⟨w.heap.size, 2, none⟩), Value.slice (some ⟨b, f, none⟩) ts.length tc, Value.int IntKind.i64 (i : Int), Value.pointer (some ⟨b, f + i * 5, none⟩), Value.agg #[Value.string (B nm), Value.int IntKind.i64 pd, Value.int IntKind.i64 dl, Value.int IntKind.i64 bu, Value.slice pa pr.length pc], Value.int IntKind.i64 nd, Value.bool false, Value.bool false, Value.bool false, Value.bool false, Value.bool true, Value.bool true, Value.slice (some ⟨g12, 0, none⟩) ts.length ts.length, Value.int IntKind.i64 (i : Int), Value.pointer (some ⟨g12, i, none⟩), Value.int IntKind.i64 0, Value.bool false, Value.bool false, Value.bool false, u143, u144, u145, u146, u147, u148, u149, u150, u151, u152, u153, u154, u155, u156, u157, u158, u159], defers := [] }) (by kernel_rfl) ?_
                clear hkz hS4 hS6 ng2 u2 cl t0 t1 t2 t3 t4 KD4 T6
                go_wp2_with fail
                cases ob with
                | true =>
                  go_big_region
                  all_goals go_wp2_with fail
                  go_roundg gi
                  case rel => exact ⟨i + 1, _, rfl, by go_num, by rw [HON.out]; rfl, by omega, (HK2.out.trans (HK4.out.trans M6)).drew⟩
                  case measure => omega
                | false =>
                  go_big_region
                  all_goals go_wp2_with fail
                  go_roundg gi
                  case rel => exact ⟨i + 1, _, rfl, by go_num, by rw [HON.out]; rfl, by omega, (HK2.out.trans (HK4.out.trans M6)).drew⟩
                  case measure => omega
        · have b3 : ¬ (i : Int) < (ts.length : Int) := by omega
          obtain rfl : i = ts.length := by omega
          have hob1 : ob = true := by rw [← HOB.out, ← HCV.out]; exact oneB_all _ _ _
          subst hob1
          go_wp2_with fail
          go_roundg gm
          case rel => exact ⟨k + 1, _, rfl, by go_num, by omega, HK12.out.trans HK2.out⟩
          case measure => omega
    · have b1 : ¬ (k : Int) < (N : Int) := by omega
      go_wp2_with fail
      go_ret
      exact ⟨rfl, HKA.out.trans (HM11.out.trans HK.out)⟩

end Go.Proofs.YtembbhbbmkijcaaGreatDoor
