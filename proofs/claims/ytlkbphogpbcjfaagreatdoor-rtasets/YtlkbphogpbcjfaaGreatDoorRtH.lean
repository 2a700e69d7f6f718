/- rta.Of of any set. -/
import Derived.Test.YtlkbphogpbcjfaaGreatDoorRtG
namespace Go.Proofs.YtlkbphogpbcjfaaGreatDoor
open Go.RowKit Go.Sort

section
variable {P : Program} {ops : Array Oper} {Q : Exit → Act → World → Prop} {md : Region.Mode} {S : World → Prop}
theorem oper_calls {o : Oper} {a : Act} {w : World} {K : Act → World → Prop} {f : FuncId} {vals : Array Value} (hx : (execOp a.eval o).run P w = .ok (.enter f vals) w) (h : Calls P f vals w fun e w' => ∃ v, e = .returned v ∧ K (a.put o.dst v) w') : Oper.wp P o a w K Q := by
  unfold Oper.wp
  rw [hx, Oper.upon_enter]
  refine h.mono ?_
  rintro e w' ⟨v, rfl, k⟩
  exact k
/-- Number i alone may come up, and calls. -/
theorem wpAnyH_call {i : Nat} {oi : Oper} {fuel : Nat} {listed : Array Bool} {a : Act} {w : World} {f : FuncId} {vals : Array Value} (hi : ops[i]? = some oi) (hr : Region.ready md ops listed = [i]) (hg : Region.wanted oi (yielded ops a.tmps) = true) (hx : (execOp a.eval oi).run P w = .ok (.enter f vals) w)
    (h : Calls P f vals w fun e w' => ∃ v, e = .returned v ∧ S w' ∧ wpAnyH P md ops Q S fuel (listed.setIfInBounds i true) (a.put oi.dst v) w') : wpAnyH P md ops Q S (fuel + 1) listed a w := by
  refine wpAnyH_all hr (by simp) (fun j hj => ?_)
  obtain rfl := List.mem_singleton.1 hj
  refine wpOp_step hi (fun K' hK => ?_)
  rw [if_pos hg]
  refine oper_calls hx (h.mono ?_)
  rintro e w' ⟨v, rfl, h1, h2⟩
  exact ⟨v, rfl, hK _ _ ⟨h1, h2⟩⟩
/-- A stronger condition serves. -/
theorem wpAnyH_weak {S' : World → Prop} (h : ∀ w', S' w' → S w') : ∀ (fuel : Nat) (listed : Array Bool) (a : Act) (w : World), wpAnyH P md ops Q S' fuel listed a w → wpAnyH P md ops Q S fuel listed a w
  | 0, _, _, _, k => k
  | fuel + 1, _, _, _, k => ⟨k.1, fun i hi => wpOp_mono (fun a' w' k' => ⟨h _ k'.1, wpAnyH_weak h fuel _ a' w' k'.2⟩) (k.2 i hi)⟩
end
/-- How long task x may be held up. -/
def blkX (F : Nat → List OpD) (ts : List TaskD) (L x : Nat) : Int := blkN ts.length (prE ts) (ceilF ts) (fun q => secV (q : Int) F ts) x L
theorem blkX_get {F : Nat → List OpD} {ts : List TaskD} {L x : Nat} (h : x < ts.length) : (blkS F ts L)[x]? = some (blkX F ts L x) := blkD_get h
theorem blkX_nn (F : Nat → List OpD) (ts : List TaskD) (L x : Nat) : 0 ≤ blkX F ts L x := blkN_nn _ _ _ _ _ _
theorem blkX_le {F : Nat → List OpD} {ts : List TaskD} {L x : Nat} (h : ∀ t ∈ ts, t.budget ≤ 1099511627776) : blkX F ts L x ≤ 1099511627776 := by
  unfold blkX
  rw [blkN_le]
  refine ⟨by omega, fun r k _ _ _ _ => ?_⟩
  unfold secV
  cases hk : ts[k]? with
  | none => simp
  | some t =>
    have := h t (List.mem_of_getElem? hk)
    simp only
    omega
/-- What a task needs. -/
def needX (ts : List TaskD) (x : Nat) : Int := match ts[x]? with
  | some t => min (costD t.prog) t.budget
  | none => 0
/-- In how many ticks task x is done at most. -/
def respX (F : Nat → List OpD) (ts : List TaskD) (L x : Nat) : Int × Int × Int := fixT (needX ts x + blkX F ts L x) (ldsOf ts x) (dlT ts x)
def ofD (F : Nat → List OpD) (ts : List TaskD) (L : Nat) (i : Int) : Int × Int :=
  if 0 ≤ i ∧ i < (ts.length : Int) then ((respX F ts L i.toNat).1, (respX F ts L i.toNat).2.2) else (0, 1)

set_option maxHeartbeats 8000000 in
set_option maxRecDepth 10000 in
theorem rof_any (L : Nat) (ca ta : Option Addr) (nc cc tc : Nat) (ts : List TaskD) (F : Nat → List OpD) (i : Int) (w : World) (hr : Rdy w) (hA : AtT w ta ts) (hok : TsOk ts) (h1 : 1 ≤ ts.length) (h12 : ts.length ≤ 12) (hL : L ≤ 8) (hpg : ∀ t ∈ ts, checkP t.prog = (0, 0)) (hbl : ∀ i t, ts[i]? = some t → Bal 3 0 0 t.prog (F i)) (hbd : ∀ t ∈ ts, 1 ≤ t.budget ∧ t.budget ≤ 1099511627776) :
    Calls Tryz.prog 7 #[.agg #[.int .i64 L, .slice ca nc cc, .slice ta ts.length tc], .int .i64 i] w fun e w' => e = .returned (.tuple #[.int .i64 (ofD F ts L i).1, .int .i64 (ofD F ts L i).2]) ∧ Kept w w' := by
  have K0 := (Kept.refl w).alloc (.cells #[.int .i64 L, .slice ca nc cc, .slice ta ts.length tc] 36)
  have HB : Hid (Box w.heap.size (w.alloc (.cells #[.int .i64 L, .slice ca nc cc, .slice ta ts.length tc] 36)) 36 w.heap.size [.int .i64 L, .slice ca nc cc, .slice ta ts.length tc]) := box_new w.heap.size w 36 [.int .i64 L, .slice ca nc cc, .slice ta ts.length tc] (Nat.le_refl _) (by simp)
  by_cases i0 : i < 0
  · have HZ : Hid (ofD F ts L i = (0, 1)) := by show _ = _; unfold ofD; rw [if_neg (by omega)]
    clear hr hA hok hpg hbl hbd
    go_enter Tryz.func7, Tryz.ntmps7
    go_wp2_with fail
    go_ret2
    rw [HZ.out]
    exact ⟨rfl, K0⟩
  by_cases i1 : i ≥ (ts.length : Int)
  · have HZ : Hid (ofD F ts L i = (0, 1)) := by show _ = _; unfold ofD; rw [if_neg (by omega)]
    clear hr hA hok hpg hbl hbd
    go_enter Tryz.func7, Tryz.ntmps7
    go_wp2_with fail
    go_ret2
    rw [HZ.out]
    exact ⟨rfl, K0⟩
  obtain ⟨x, rfl⟩ : ∃ x : Nat, i = (x : Int) := ⟨i.toNat, by omega⟩
  have hx : x < ts.length := by omega
  obtain ⟨b, f, nm, pd, dl, bu, pr, pa, pc, rfl, htj, d0, d1, d2, d3, d4, hpl, hpa, hbw, _⟩ := hA.get x hx
  obtain ⟨nd, hndv⟩ : ∃ z, min (costD pr) bu = z := ⟨_, rfl⟩
  have hbu := hbd _ (List.mem_of_getElem? htj)
  simp only at hbu
  have hnd0 : nd ≤ 1099511627776 := by omega
  obtain ⟨bk, hbk⟩ : ∃ z, blkX F ts L x = z := ⟨_, rfl⟩
  have hbk0 : 0 ≤ bk := by rw [← hbk]; exact blkX_nn _ _ _ _
  have hbk1 : bk ≤ 1099511627776 := by rw [← hbk]; exact blkX_le (fun t ht => (hbd t ht).2)

  have hbu0 : 0 ≤ nd := by have := (costD_i64 (hpg _ (List.mem_of_getElem? htj))).1; simp only at this; omega
  obtain ⟨⟨z1, z2, z3⟩, hz⟩ : ∃ z, fixT (nd + bk) (ldsOf ts x) dl = z := ⟨_, rfl⟩
  have HFX : Hid (fixT (nd + bk) (ldsOf ts x) dl = (z1, z2, z3)) := hz
  have HZ : Hid (ofD F ts L (x : Int) = (z1, z3)) := by
    show _ = _
    unfold ofD
    rw [if_pos (by omega), Int.toNat_natCast]
    unfold respX needX
    rw [hbk, show dlT ts x = dl by unfold dlT; rw [htj], htj]
    simp only
    rw [hndv, hz]
  have HND : Hid (∀ wx, Kept w wx → Calls Tryz.prog 16 #[.agg #[.string (B nm), .int .i64 pd, .int .i64 dl, .int .i64 bu, .slice pa pr.length pc]] wx fun e w' => e = .returned (.int .i64 nd) ∧ Kept wx w') := by
    intro wx kx
    have h := need_any nm pd dl bu pr pa pc wx (hpa.kept kx) (hpg _ (List.mem_of_getElem? htj))
    rw [hndv] at h
    exact h
  have HBK : Hid (∀ wx, Kept w wx → Calls Tryz.prog 17 #[.agg #[.int .i64 L, .slice ca nc cc, .slice (some ⟨b, f, none⟩) ts.length tc]] wx fun e w' => ∃ g, e = .returned (.slice (some ⟨g, 0, none⟩) ts.length ts.length) ∧ w'.cell? ⟨g, x, none⟩ = some (.int .i64 bk) ∧ Kept wx w') := by
    intro wx kx
    refine (bof_any L ca (some ⟨b, f, none⟩) nc cc tc ts F wx (hr.kept kx) (hA.kept kx) hok h1 h12 hL hpg hbl).mono ?_
    rintro e w' ⟨g, rfl, h⟩
    have h2 : AtI w' (some ⟨g, 0, none⟩) (blkS F ts L) ∧ Kept wx w' := by first | exact h | exact h.2
    obtain ⟨A, K⟩ := h2
    obtain ⟨b', f', e', hc⟩ := A x _ (blkX_get hx)
    cases e'
    rw [Nat.zero_add, hbk] at hc
    exact ⟨g, rfl, hc, K⟩
  have HLD : Hid (∀ wx, Kept w wx → Calls Tryz.prog 18 #[.agg #[.int .i64 L, .slice ca nc cc, .slice (some ⟨b, f, none⟩) ts.length tc], .int .i64 (x : Int)] wx (LdOut wx (ldsOf ts x))) := fun wx kx => hloads_any (L : Int) ca (some ⟨b, f, none⟩) nc cc tc ts x hx wx (hA.kept kx) h12 hpg
  have HLE : Hid ((ldsOf ts x).length ≤ 1000) := by have := ldsOf_len ts x; show _ ≤ _; omega
  have r2 : ¬ (x : Int) ≥ (ts.length : Int) := by omega
  have r3 : (0 : Int) ≤ (x : Int) := by omega
  have r4 : (x : Int) < (ts.length : Int) := by omega
  have HCL : Hid (w.cell? ⟨b, f + x * 5, none⟩ = some (.string (B nm)) ∧ w.cell? ⟨b, f + x * 5 + 1, none⟩ = some (.int .i64 pd) ∧ w.cell? ⟨b, f + x * 5 + 2, none⟩ = some (.int .i64 dl) ∧ w.cell? ⟨b, f + x * 5 + 3, none⟩ = some (.int .i64 bu) ∧ w.cell? ⟨b, f + x * 5 + 4, none⟩ = some (.slice pa pr.length pc)) := ⟨d0, d1, d2, d3, d4⟩
  have e0 := K0.cell d0
  have e1 := K0.cell d1
  have e2 := K0.cell d2
  have e3 := K0.cell d3
  have e4 := K0.cell d4
  clear hr hA hok hpg hbl hbd htj hndv hbk hz hpa hpl d0 d1 d2 d3 d4
  have hs1 : (w.alloc (.cells #[.int .i64 L, .slice ca nc cc, .slice (some ⟨b, f, none⟩) ts.length tc] 36)).heap.size = w.heap.size + 1 := by simp
  have HB2 : Hid (Box w.heap.size ((w.alloc (.cells #[.int .i64 L, .slice ca nc cc, .slice (some ⟨b, f, none⟩) ts.length tc] 36)).alloc (.cells #[.string (B nm), .int .i64 pd, .int .i64 dl, .int .i64 bu, .slice pa pr.length pc] 58)) 36 w.heap.size [.int .i64 L, .slice ca nc cc, .slice (some ⟨b, f, none⟩) ts.length tc]) := HB.out.kept ((Kept.refl _).alloc _)
  have HT2 : Hid (Box w.heap.size ((w.alloc (.cells #[.int .i64 L, .slice ca nc cc, .slice (some ⟨b, f, none⟩) ts.length tc] 36)).alloc (.cells #[.string (B nm), .int .i64 pd, .int .i64 dl, .int .i64 bu, .slice pa pr.length pc] 58)) 58 (w.heap.size + 1) [.string (B nm), .int .i64 pd, .int .i64 dl, .int .i64 bu, .slice pa pr.length pc]) := by
    have h := box_new w.heap.size (w.alloc (.cells #[.int .i64 L, .slice ca nc cc, .slice (some ⟨b, f, none⟩) ts.length tc] 36)) 58 [.string (B nm), .int .i64 pd, .int .i64 dl, .int .i64 bu, .slice pa pr.length pc] K0.size (by simp)
    rw [hs1] at h
    exact h
  have K2 : Hid (Kept w ((w.alloc (.cells #[.int .i64 L, .slice ca nc cc, .slice (some ⟨b, f, none⟩) ts.length tc] 36)).alloc (.cells #[.string (B nm), .int .i64 pd, .int .i64 dl, .int .i64 bu, .slice pa pr.length pc] 58))) := K0.alloc _
  clear HB hs1
  go_enter Tryz.func7, Tryz.ntmps7
  go_wp2_with fail
  have KD : Kept w ((w.alloc (.cells #[.int .i64 L, .slice ca nc cc, .slice (some ⟨b, f, none⟩) ts.length tc] 36)).alloc (.cells #[.string (B nm), .int .i64 pd, .int .i64 dl, .int .i64 bu, .slice pa pr.length pc] 58)).drew := K2.out.drew
  have s0 := (HB2.out.kept ((Kept.refl _).drew)).cell 0 (by simp)
  have s1 := (HB2.out.kept ((Kept.refl _).drew)).cell 1 (by simp)
  have s2 := (HB2.out.kept ((Kept.refl _).drew)).cell 2 (by simp)
  have t0 := (HT2.out.kept ((Kept.refl _).drew)).cell 0 (by simp)
  have t1 := (HT2.out.kept ((Kept.refl _).drew)).cell 1 (by simp)
  have t2 := (HT2.out.kept ((Kept.refl _).drew)).cell 2 (by simp)
  have t3 := (HT2.out.kept ((Kept.refl _).drew)).cell 3 (by simp)
  have t4 := (HT2.out.kept ((Kept.refl _).drew)).cell 4 (by simp)
  simp only [List.getElem?_cons_zero, List.getElem?_cons_succ] at s0 s1 s2 t0 t1 t2 t3 t4
  refine wp_region_held_drew (S := fun w' => Kept ((w.alloc (.cells #[.int .i64 L, .slice ca nc cc, .slice (some ⟨b, f, none⟩) ts.length tc] 36)).alloc (.cells #[.string (B nm), .int .i64 pd, .int .i64 dl, .int .i64 bu, .slice pa pr.length pc] 58)).drew w') (by kernel_rfl) (Kept.refl _) (fun _ => ?_)
  clear HB2 HT2 K2 K0 e0 e1 e2 e3 e4
  generalize ((w.alloc (.cells #[.int .i64 L, .slice ca nc cc, .slice (some ⟨b, f, none⟩) ts.length tc] 36)).alloc (.cells #[.string (B nm), .int .i64 pd, .int .i64 dl, .int .i64 bu, .slice pa pr.length pc] 58)).drew = wD at *
  refine wpAnyH_take (i := 0) (v := .agg #[.string (B nm), .int .i64 pd, .int .i64 dl, .int .i64 bu, .slice pa pr.length pc]) rfl (by kernel_rfl) (by kernel_rfl) (by kernel_rfl) (fun _ _ _ h => h) (.inl ⟨by kernel_rfl, fun wx hx => by have k0 := hx.cell t0; have k1 := hx.cell t1; have k2 := hx.cell t2; have k3 := hx.cell t3; have k4 := hx.cell t4; go_simp⟩) (Kept.refl _) ?_
  refine wpAnyH_take (i := 2) (v := .agg #[.int .i64 L, .slice ca nc cc, .slice (some ⟨b, f, none⟩) ts.length tc]) rfl (by kernel_rfl) (by kernel_rfl) (by kernel_rfl) (fun _ _ _ h => h) (.inl ⟨by kernel_rfl, fun wx hx => by have k0 := hx.cell s0; have k1 := hx.cell s1; have k2 := hx.cell s2; go_simp⟩) (Kept.refl _) ?_
  refine wpAnyH_take (i := 4) (v := .int .i64 (x : Int)) rfl (by kernel_rfl) (by kernel_rfl) (by kernel_rfl) (fun _ _ _ h => h) (.inl ⟨by kernel_rfl, fun wx hx => by go_simp⟩) (Kept.refl _) ?_
  refine wpAnyH_take (i := 8) (v := .agg #[.int .i64 L, .slice ca nc cc, .slice (some ⟨b, f, none⟩) ts.length tc]) rfl (by kernel_rfl) (by kernel_rfl) (by kernel_rfl) (fun _ _ _ h => h) (.inl ⟨by kernel_rfl, fun wx hx => by have k0 := hx.cell s0; have k1 := hx.cell s1; have k2 := hx.cell s2; go_simp⟩) (Kept.refl _) ?_
  refine wpAnyH_take (i := 9) (v := .int .i64 (x : Int)) rfl (by kernel_rfl) (by kernel_rfl) (by kernel_rfl) (fun _ _ _ h => h) (.inl ⟨by kernel_rfl, fun wx hx => by go_simp⟩) (Kept.refl _) ?_
  refine wpAnyH_take (i := 11) (v := .pointer (some ⟨w.heap.size + 1, 2, none⟩)) rfl (by kernel_rfl) (by kernel_rfl) (by kernel_rfl) (fun _ _ _ h => h) (.inl ⟨by kernel_rfl, fun wx hx => by go_simp⟩) (Kept.refl _) ?_
  refine wpAnyH_take (i := 12) (v := .int .i64 dl) rfl (by kernel_rfl) (by kernel_rfl) (by kernel_rfl) (fun _ _ _ h => h) (.inl ⟨by kernel_rfl, fun wx hx => by have k0 := hx.cell t2; go_simp⟩) (Kept.refl _) ?_
  refine wpAnyH_call (i := 1) (f := 16) (vals := #[.agg #[.string (B nm), .int .i64 pd, .int .i64 dl, .int .i64 bu, .slice pa pr.length pc]]) rfl (by kernel_rfl) (by kernel_rfl) (by kernel_rfl) ((HND.out _ KD).mono ?_)
  rintro e w5 ⟨rfl, T5⟩
  refine ⟨_, rfl, T5, ?_⟩
  have K5 := KD.trans T5
  refine wpAnyH_call (i := 3) (f := 17) (vals := #[.agg #[.int .i64 L, .slice ca nc cc, .slice (some ⟨b, f, none⟩) ts.length tc]]) rfl (by kernel_rfl) (by kernel_rfl) (by kernel_rfl) ((HBK.out _ K5).mono ?_)
  rintro e w6 ⟨g6, rfl, c6, T6⟩
  refine ⟨_, rfl, T5.trans T6, ?_⟩
  have K6 := K5.trans T6
  refine wpAnyH_weak (S' := fun w' => Kept w6 w') (fun w' h => (T5.trans T6).trans h) _ _ _ _ ?_
  refine wpAnyH_take (i := 5) (v := .pointer (some ⟨g6, x, none⟩)) rfl (by kernel_rfl) (by kernel_rfl) (by kernel_rfl) (fun _ _ _ h => h) (.inl ⟨by kernel_rfl, fun wx hx => by go_simp⟩) (Kept.refl _) ?_
  refine wpAnyH_take (i := 6) (v := .int .i64 bk) rfl (by kernel_rfl) (by kernel_rfl) (by kernel_rfl) (fun _ _ _ h => h) (.inl ⟨by kernel_rfl, fun wx hx => by have k0 := hx.cell c6; go_simp⟩) (Kept.refl _) ?_
  refine wpAnyH_take (i := 7) (v := .int .i64 (nd + bk)) rfl (by kernel_rfl) (by kernel_rfl) (by kernel_rfl) (fun _ _ _ h => h) (.inl ⟨by kernel_rfl, fun wx hx => by go_simp; simp [IntKind.wrap, IntKind.bits, IntKind.signed]; omega⟩) (Kept.refl _) ?_
  refine wpAnyH_call (i := 10) (f := 18) (vals := #[.agg #[.int .i64 L, .slice ca nc cc, .slice (some ⟨b, f, none⟩) ts.length tc], .int .i64 (x : Int)]) rfl (by kernel_rfl) (by kernel_rfl) (by kernel_rfl) ((HLD.out _ K6).mono ?_)
  rintro e w7 ⟨la, lc, rfl, A7, T7⟩
  refine ⟨_, rfl, T7, ?_⟩
  have K7 := K6.trans T7
  refine wpAnyH_call (i := 13) (f := 11) (vals := #[.int .i64 (nd + bk), .slice la (ldsOf ts x).length lc, .int .i64 dl]) rfl (by kernel_rfl) (by kernel_rfl) (by kernel_rfl) ((fix_any la lc (ldsOf ts x) (nd + bk) dl w7 A7 HLE.out (by omega)).mono ?_)
  rintro e w8 ⟨rfl, T8⟩
  refine ⟨_, rfl, T7.trans T8, ?_⟩
  have K8 := K7.trans T8
  rw [HFX.out]
  simp only [trio]
  refine wpAnyH_take (i := 14) (v := .tuple #[.int .i64 z1, .int .i64 z2, .int .i64 z3]) rfl (by kernel_rfl) (by kernel_rfl) (by kernel_rfl) (fun _ _ _ h => h) (.inl ⟨by kernel_rfl, fun wx hx => by go_simp⟩) (T7.trans T8) ?_
  refine wpAnyH_take (i := 15) (v := .int .i64 z1) rfl (by kernel_rfl) (by kernel_rfl) (by kernel_rfl) (fun _ _ _ h => h) (.inl ⟨by kernel_rfl, fun wx hx => by go_simp⟩) (T7.trans T8) ?_
  refine wpAnyH_take (i := 16) (v := .int .i64 z2) rfl (by kernel_rfl) (by kernel_rfl) (by kernel_rfl) (fun _ _ _ h => h) (.inl ⟨by kernel_rfl, fun wx hx => by go_simp⟩) (T7.trans T8) ?_
  refine wpAnyH_take (i := 17) (v := .int .i64 z3) rfl (by kernel_rfl) (by kernel_rfl) (by kernel_rfl) (fun _ _ _ h => h) (.inl ⟨by kernel_rfl, fun wx hx => by go_simp⟩) (T7.trans T8) ?_
  refine wpAnyH_take (i := 18) (v := .int .i64 z1) rfl (by kernel_rfl) (by kernel_rfl) (by kernel_rfl) (fun _ _ _ h => h) (.inl ⟨by kernel_rfl, fun wx hx => by go_simp⟩) (T7.trans T8) ?_
  refine wpAnyH_take (i := 19) (v := .int .i64 z2) rfl (by kernel_rfl) (by kernel_rfl) (by kernel_rfl) (fun _ _ _ h => h) (.inl ⟨by kernel_rfl, fun wx hx => by go_simp⟩) (T7.trans T8) ?_
  refine wpAnyH_take (i := 20) (v := .int .i64 z3) rfl (by kernel_rfl) (by kernel_rfl) (by kernel_rfl) (fun _ _ _ h => h) (.inl ⟨by kernel_rfl, fun wx hx => by go_simp⟩) (T7.trans T8) ?_
  refine wpAnyH_done (by kernel_rfl) ?_ _
  go_wp2_with fail
  go_ret2
  rw [HZ.out]
  exact ⟨rfl, K8⟩
end Go.Proofs.YtlkbphogpbcjfaaGreatDoor
