/- RtaSets, walked; got.Resp of any set. -/
import Derived.Test.YtlkbphogpbcjfaaGreatDoorRtJ
import Derived.Test.YtlkbphogpbcjfaaGreatDoorBlB
import Derived.Test.YtlkbphogpbcjfaaGreatDoorRtK
import Derived.Test.YtlkbphogpbcjfaaGreatDoorTSo
import Derived.Test.YtlkbphogpbcjfaaGreatDoorOrL
namespace Go.Proofs.YtlkbphogpbcjfaaGreatDoor
open Go.RowKit Go.Sort

set_option maxHeartbeats 8000000 in
set_option maxRecDepth 10000 in
theorem rresp_any (L : Nat) (ca ta : Option Addr) (nc cc tc : Nat) (ts : List TaskD) (F : Nat → List OpD) (i : Int) (w : World) (hA : AtT w ta ts) (h12 : ts.length ≤ 12) (hL : L ≤ 1000) (hpg : ∀ t ∈ ts, checkP t.prog = (0, 0)) (hbl : ∀ i t, ts[i]? = some t → Bal 3 0 0 t.prog (F i)) (hlk : ∀ t ∈ ts, ∀ x ∈ locksD t.prog, 0 ≤ x ∧ x < (L : Int)) (hbd : ∀ t ∈ ts, 1 ≤ t.budget ∧ t.budget ≤ 1099511627776) :
    Calls Tryz.prog 9 #[.agg #[.int .i64 L, .slice ca nc cc, .slice ta ts.length tc], .int .i64 i] w fun e w' => e = .returned (.tuple #[.int .i64 (ofD F ts L i).1, .int .i64 (ofD F ts L i).2]) ∧ Kept w w' := by
  have K0 := (Kept.refl w).alloc (.cells #[.int .i64 L, .slice ca nc cc, .slice ta ts.length tc] 25)
  have HB : Hid (Box w.heap.size (w.alloc (.cells #[.int .i64 L, .slice ca nc cc, .slice ta ts.length tc] 25)) 25 w.heap.size [.int .i64 L, .slice ca nc cc, .slice ta ts.length tc]) := box_new w.heap.size w 25 [.int .i64 L, .slice ca nc cc, .slice ta ts.length tc] (Nat.le_refl _) (by simp)
  by_cases i0 : i < 0
  · have HZ : Hid (ofD F ts L i = (0, 1)) := by show _ = _; unfold ofD; rw [if_neg (by omega)]
    clear hA hpg hbl hbd hlk
    go_enter Tryz.func9, Tryz.ntmps9
    go_wp2_with fail
    go_ret2
    rw [HZ.out]
    exact ⟨rfl, K0⟩
  by_cases i1 : i ≥ (ts.length : Int)
  · have HZ : Hid (ofD F ts L i = (0, 1)) := by show _ = _; unfold ofD; rw [if_neg (by omega)]
    clear hA hpg hbl hbd hlk
    go_enter Tryz.func9, Tryz.ntmps9
    go_wp2_with fail
    go_ret2
    rw [HZ.out]
    exact ⟨rfl, K0⟩
  obtain ⟨x, rfl⟩ : ∃ x : Nat, i = (x : Int) := ⟨i.toNat, by omega⟩
  have hx : x < ts.length := by omega
  obtain ⟨b, f, nm, pd, dl, bu, pr, pa, pc, rfl, htj, d0, d1, d2, d3, d4, hpl, hpa, hbw, -⟩ := hA.get x hx
  obtain ⟨nd, hndv⟩ : ∃ z, min (costD pr) bu = z := ⟨_, rfl⟩
  have hbu := hbd _ (List.mem_of_getElem? htj)
  simp only at hbu
  have hnd0 : nd ≤ 1099511627776 := by omega
  obtain ⟨bk, hbk⟩ : ∃ z, blkX F ts L x = z := ⟨_, rfl⟩
  have hbk0 : 0 ≤ bk := by rw [← hbk]; exact blkX_nn _ _ _ _
  have hbk1 : bk ≤ 1099511627776 := by rw [← hbk]; exact blkX_le (fun t ht => (hbd t ht).2)
  have hbu0 : 0 ≤ nd := by have := (costD_i64 (hpg _ (List.mem_of_getElem? htj))).1; simp only at this; omega
  obtain ⟨⟨z1, z2, z3⟩, hz⟩ : ∃ z, fixT (nd + bk) (ldsOf ts x) dl = z := ⟨_, rfl⟩
  have HFX : Hid (fixT (nd + bk) (ldsOf ts x) dl = (z1, z2, z3)) := hz
  have HZ : Hid (ofD F ts L (x : Int) = (z1, z3)) := by
    show _ = _
    unfold ofD
    rw [if_pos (by omega), Int.toNat_natCast]
    unfold respX needX
    rw [hbk, show dlT ts x = dl by unfold dlT; rw [htj], htj]
    simp only
    rw [hndv, hz]
  have HND : Hid (∀ wx, Kept w wx → Calls Tryz.prog 10 #[.agg #[.string (B nm), .int .i64 pd, .int .i64 dl, .int .i64 bu, .slice pa pr.length pc]] wx fun e w' => e = .returned (.int .i64 nd) ∧ Kept wx w') := by
    intro wx kx
    have h := rneed_any nm pd dl bu pr pa pc wx (hpa.kept kx) hpl (hpg _ (List.mem_of_getElem? htj))
    rw [hndv] at h
    exact h
  have HBK : Hid (∀ wx, Kept w wx → Calls Tryz.prog 22 #[.agg #[.int .i64 L, .slice ca nc cc, .slice (some ⟨b, f, none⟩) ts.length tc]] wx fun e w' => ∃ g, e = .returned (.slice (some ⟨g, 0, none⟩) ts.length ts.length) ∧ w'.cell? ⟨g, x, none⟩ = some (.int .i64 bk) ∧ Kept wx w') := by
    intro wx kx
    refine (rblock_any L ca (some ⟨b, f, none⟩) nc cc tc ts F wx (hA.kept kx) (by omega) hL hpg hbl hlk).mono ?_
    rintro e w' ⟨g, rfl, A, K⟩
    obtain ⟨b', f', e', hc⟩ := A x _ (blkX_get hx)
    cases e'
    rw [Nat.zero_add, hbk] at hc
    exact ⟨g, rfl, hc, K⟩
  have HLE : Hid ((ldsOf ts x).length ≤ 1000) := by have := ldsOf_len ts x; show _ ≤ _; omega
  have r2 : ¬ (x : Int) ≥ (ts.length : Int) := by omega
  have r3 : (0 : Int) ≤ (x : Int) := by omega
  have r4 : (x : Int) < (ts.length : Int) := by omega
  have HA : Hid (AtT w (some ⟨b, f, none⟩) ts) := hA
  have HPG : Hid (∀ t ∈ ts, checkP t.prog = (0, 0)) := hpg
  have hhi := rhigher_any L ca nc cc (some ⟨b, f, none⟩) ts.length tc (dlT ts) x hx (w.alloc (.cells #[.int .i64 L, .slice ca nc cc, .slice (some ⟨b, f, none⟩) ts.length tc] 25)) ((att_d hA).kept K0) (by omega)
  rw [hiN_map, List.length_map] at hhi
  have HLL : Hid (ldsOf ts x = (hiN ts.length (dlT ts) x).map (ldOf ts)) := rfl
  have HLQ : Hid (∀ j, j ∈ hiN ts.length (dlT ts) x → j < ts.length) := fun j h => hiN_lt h
  have hle : (hiN ts.length (dlT ts) x).length ≤ 12 := by
    have := ldsOf_len ts x
    unfold ldsOf at this
    rw [List.length_map] at this
    omega
  obtain ⟨hn, hhn⟩ : ∃ z, hiN ts.length (dlT ts) x = z := ⟨_, rfl⟩
  rw [hhn] at hhi HLL HLQ hle
  have HLN : Hid ((hn.map (ldOf ts)).length = hn.length) := by show _ = _; rw [List.length_map]
  have HCW : Hid (w.cell? ⟨b, f + x * 5, none⟩ = some (.string (B nm)) ∧ w.cell? ⟨b, f + x * 5 + 1, none⟩ = some (.int .i64 pd) ∧ w.cell? ⟨b, f + x * 5 + 2, none⟩ = some (.int .i64 dl) ∧ w.cell? ⟨b, f + x * 5 + 3, none⟩ = some (.int .i64 bu) ∧ w.cell? ⟨b, f + x * 5 + 4, none⟩ = some (.slice pa pr.length pc)) := ⟨d0, d1, d2, d3, d4⟩
  clear hA hpg hbl hbd hlk htj hndv hbk hz hpa hpl d0 d1 d2 d3 d4 hhn
  go_enter Tryz.func9, Tryz.ntmps9
  go_wp2_with fail
  refine hhi.mono ?_
  rintro e w1 ⟨va, vm, vc, rfl, rfl, A1, T1⟩
  have K1 := K0.trans T1
  have HB1 : Hid (Box w.heap.size w1 25 w.heap.size [.int .i64 L, .slice ca nc cc, .slice (some ⟨b, f, none⟩) ts.length tc]) := HB.out.kept T1
  have HI : Hid (AtI w1 va (hn.map (fun j : Nat => (j : Int)))) := A1
  clear hhi A1 HB K0 T1
  go_wp2_with fail
  go_loopg [6, 8] hn.length (fun gk v j wr => ∃ (k : Nat) (v0 : Value) (W : World), W = wr ∧ v0 = v ∧ j = .int .i64 k ∧ k + gk = hn.length ∧ Hid (LdRow 68 w.heap.size W v0 ((hn.map (ldOf ts)).take k)) ∧ Hid (∀ q, v0.ownBlock = some q → w1.heap.size ≤ q) ∧ Hid (Kept w1 W))
  case atStart => exact ⟨0, _, _, rfl, rfl, rfl, by omega, LdRow.nil _ _ _, fun q hq => by simp [Value.ownBlock] at hq, Kept.refl _⟩
  case round =>
    obtain ⟨k, v0, W, hW, hv, rfl, hk, HR, HO, HK⟩ := hrel
    subst hW
    subst hv
    have KW := K1.trans HK.out
    by_cases hkn : k < hn.length
    · have b1 : (k : Int) < (hn.length : Int) := by omega
      have b2 : (0 : Int) ≤ (k : Int) := by omega
      obtain ⟨g, rfl⟩ : ∃ g, gk = g + 1 := ⟨gk - 1, by omega⟩
      obtain ⟨y, hy⟩ : ∃ y, hn[k]? = some y := ⟨_, List.getElem?_eq_getElem hkn⟩
      have hyn := HLQ.out y (List.mem_of_getElem? hy)
      obtain ⟨vb, vf, rfl, ci⟩ := (HI.out.kept HK.out) k (y : Int) (by rw [List.getElem?_map, hy]; rfl)
      obtain ⟨b'', f'', nn, pp, dd, uu, qq, qa, qc, ebf, htj, d0, d1, d2, d3, d4, hpl, hpa, hbw, -⟩ := HA.out.get y hyn
      cases ebf
      have b3 : (y : Int) < (ts.length : Int) := by omega
      have b4 : (0 : Int) ≤ (y : Int) := by omega
      have hnd := HPG.out _ (List.mem_of_getElem? htj)
      obtain ⟨nv, hndv⟩ : ∃ z, min (costD qq) uu = z := ⟨_, rfl⟩
      have HND2 : Hid (∀ wx, Kept w wx → Calls Tryz.prog 10 #[.agg #[.string (B nn), .int .i64 pp, .int .i64 dd, .int .i64 uu, .slice qa qq.length qc]] wx fun e w' => e = .returned (.int .i64 nv) ∧ Kept wx w') := by
        intro wx kx
        have h := rneed_any nn pp dd uu qq qa qc wx (hpa.kept kx) hpl hnd
        rw [hndv] at h
        exact h
      have HTK : Hid ((hn.map (ldOf ts)).take (k + 1) = (hn.map (ldOf ts)).take k ++ [⟨pp, nv⟩]) := by
        show _ = _
        rw [List.take_add_one, List.getElem?_map, hy]
        simp [ldOf, htj, hndv]
      have hlen : ((hn.map (ldOf ts)).take k).length ≤ 1000000 := by rw [List.length_take]; omega
      have hml : min k (hn.map (ldOf ts)).length = k := by rw [HLN.out]; omega
      have hml2 : min k hn.length = k := by omega
      have bx := HB1.out.kept HK.out
      have q2 : W.cell? ⟨w.heap.size, 2, none⟩ = some (.slice (some ⟨b, f, none⟩) ts.length tc) := bx.cell 2 (by simp)
      have hq2 := bx.lt.2
      have c0 := KW.cell d0
      have c1 := KW.cell d1
      have c2 := KW.cell d2
      have c3 := KW.cell d3
      have c4 := KW.cell d4
      have hbw2 : b < W.heap.size := cell_lt c0
      have hvb2 : vb < W.heap.size := cell_lt ci
      have hvn : ∀ q, v0.ownBlock = some q → q < W.heap.size := fun q hq => (World.ownsRow.lt HR.out q hq).2
      clear hy hyn htj d0 d1 d2 d3 d4 hpl hpa hnd hndv bx
      go_wp2_with fail
      go_region
      have KX : Kept W (W.alloc (.cells #[.string (B nn), .int .i64 pp, .int .i64 dd, .int .i64 uu, .slice qa qq.length qc] 43)).drew := ((Kept.refl W).alloc _).drew
      have HBX : Hid (Box W.heap.size (W.alloc (.cells #[.string (B nn), .int .i64 pp, .int .i64 dd, .int .i64 uu, .slice qa qq.length qc] 43)).drew 43 W.heap.size [.string (B nn), .int .i64 pp, .int .i64 dd, .int .i64 uu, .slice qa qq.length qc]) := (box_new W.heap.size W 43 [.string (B nn), .int .i64 pp, .int .i64 dd, .int .i64 uu, .slice qa qq.length qc] (Nat.le_refl _) (by simp)).kept ((Kept.refl _).drew)
      have HRX : Hid (LdRow 68 w.heap.size (W.alloc (.cells #[.string (B nn), .int .i64 pp, .int .i64 dd, .int .i64 uu, .slice qa qq.length qc] 43)).drew v0 ((hn.map (ldOf ts)).take k)) := HR.out.kept KX
      have KX1 : Hid (Kept w1 (W.alloc (.cells #[.string (B nn), .int .i64 pp, .int .i64 dd, .int .i64 uu, .slice qa qq.length qc] 43)).drew) := HK.out.trans KX
      clear HR HK KX KW c0 c1 c2 c3 c4 q2 ci
      generalize (W.alloc (.cells #[.string (B nn), .int .i64 pp, .int .i64 dd, .int .i64 uu, .slice qa qq.length qc] 43)).drew = W2 at *
      generalize W.heap.size = xb at *
      have HCX : Hid (∀ wx, Kept W2 wx → wx.cell? ⟨xb, 0, none⟩ = some (.string (B nn)) ∧ wx.cell? ⟨xb, 1, none⟩ = some (.int .i64 pp) ∧ wx.cell? ⟨xb, 2, none⟩ = some (.int .i64 dd) ∧ wx.cell? ⟨xb, 3, none⟩ = some (.int .i64 uu) ∧ wx.cell? ⟨xb, 4, none⟩ = some (.slice qa qq.length qc)) := fun wx kx => ⟨(HBX.out.kept kx).cell 0 (by simp), (HBX.out.kept kx).cell 1 (by simp), (HBX.out.kept kx).cell 2 (by simp), (HBX.out.kept kx).cell 3 (by simp), (HBX.out.kept kx).cell 4 (by simp)⟩
      obtain ⟨c0, c1, c2, c3, c4⟩ := HCX.out W2 (Kept.refl _)
      have KD1 : Hid (Kept w1 W2.drew) := KX1.out.drew
      have KD : Kept w W2.drew := K1.trans KD1.out
      have KDX : Hid (Kept W2 W2.drew) := (Kept.refl W2).drew
      have HRD : Hid (LdRow 68 w.heap.size W2.drew v0 ((hn.map (ldOf ts)).take k)) := HRX.out.kept KDX.out
      have HBD : Hid (Box xb W2.drew 43 xb [.string (B nn), .int .i64 pp, .int .i64 dd, .int .i64 uu, .slice qa qq.length qc]) := HBX.out.kept KDX.out
      go_wp2_with fail
      go_region_held3 (fun w' => w'.cell? ⟨xb, 0, none⟩ = some (.string (B nn)) ∧ w'.cell? ⟨xb, 1, none⟩ = some (.int .i64 pp) ∧ w'.cell? ⟨xb, 2, none⟩ = some (.int .i64 dd) ∧ w'.cell? ⟨xb, 3, none⟩ = some (.int .i64 uu) ∧ w'.cell? ⟨xb, 4, none⟩ = some (.slice qa qq.length qc)) (first | assumption | go_keep) (first | (go_at_call 10; refine (HND2.out _ KD).mono ?_; rintro e w6 ⟨rfl, t6⟩; have K6 : Kept w w6 := KD.trans t6; have K61 : Kept w1 w6 := KD1.out.trans t6; have HB6 : Hid (Box xb w6 43 xb [.string (B nn), .int .i64 pp, .int .i64 dd, .int .i64 uu, .slice qa qq.length qc]) := HBD.out.kept t6; have HR6 : LdRow 68 w.heap.size w6 v0 ((hn.map (ldOf ts)).take k) := HRD.out.kept t6; have z6 := HCX.out w6 (KDX.out.trans t6)) | (refine step_append_ld lRef _ (by rfl) _ _ (by rfl) w.heap.size v0 ((hn.map (ldOf ts)).take k) ⟨pp, nv⟩ _ rfl w6 (by rfl) (by rfl) w6.heap.size (by rfl) (by rfl) HR6 hlen K6.size ?_; intro g5 c5 w5 R5 t5 hg5; have K51 : Kept w1 w5 := t5.kept K61 (fun i hi => HO.out i hi); have K5 : Kept w w5 := K1.trans K51; have HB5 := HB6.out.turns t5 (fun e => by have := hvn _ e; omega); have z5 : w5.cell? ⟨xb, 0, none⟩ = some (.string (B nn)) ∧ w5.cell? ⟨xb, 1, none⟩ = some (.int .i64 pp) ∧ w5.cell? ⟨xb, 2, none⟩ = some (.int .i64 dd) ∧ w5.cell? ⟨xb, 3, none⟩ = some (.int .i64 uu) ∧ w5.cell? ⟨xb, 4, none⟩ = some (.slice qa qq.length qc) := ⟨HB5.cell 0 (by simp), HB5.cell 1 (by simp), HB5.cell 2 (by simp), HB5.cell 3 (by simp), HB5.cell 4 (by simp)⟩) | fail)
      all_goals go_wp2_with fail
      go_roundg g
      case rel =>
        have hge : Hid (∀ q, (Value.slice (some ⟨g5, 0, none⟩) (k + 1) c5).ownBlock = some q → w1.heap.size ≤ q) := by
          intro q hq
          simp only [Value.ownBlock, Option.some.injEq] at hq
          subst hq
          rcases hg5 with h | h
          · exact HO.out _ h
          · have := K61.size
            omega
        rw [← HTK.out, List.length_take, hml] at R5
        exact ⟨k + 1, .slice (some ⟨g5, 0, none⟩) (k + 1) c5, _, rfl, rfl, by go_num, by omega, R5, hge, K51⟩
      case measure => omega
    · have b1 : ¬ (k : Int) < (hn.length : Int) := by omega
      obtain ⟨la, lc, rfl, hvc, A, -⟩ := HR.out.view
      have hml : ((hn.map (ldOf ts)).take k).length = (ldsOf ts x).length := by rw [HLL.out, List.length_take, HLN.out]; omega
      rw [List.take_of_length_le (by rw [HLN.out]; omega), ← HLL.out] at A
      have AD : Hid (AtL W.drew la (ldsOf ts x)) := A.kept ((Kept.refl W).drew)
      rw [hml]
      have KD : Kept w W.drew := KW.drew
      obtain ⟨d0w, d1w, d2w, d3w, d4w⟩ := HCW.out
      have d0 := KD.cell d0w
      have d1 := KD.cell d1w
      have d2 := KD.cell d2w
      have d3 := KD.cell d3w
      have d4 := KD.cell d4w
      have hbx := HB1.out.kept (HK.out.drew)
      have s0 := hbx.cell 0 (by simp)
      have s1 := hbx.cell 1 (by simp)
      have s2 := hbx.cell 2 (by simp)
      simp only [List.getElem?_cons_zero, List.getElem?_cons_succ] at s0 s1 s2
      clear A hvc HR hml HK hbx d0w d1w d2w d3w d4w HLN HLQ HLL HI hle HCW KW HB1 HO
      go_wp2_with fail
      refine wp_region_held_drew (S := fun w' => Kept W.drew w') (by kernel_rfl) (Kept.refl _) (fun _ => ?_)
      generalize W.drew = wD at *
      have AL := AD
      refine wpAnyH_take (i := 0) (v := .pointer (some ⟨w.heap.size, 2, none⟩)) rfl (by kernel_rfl) (by kernel_rfl) (by kernel_rfl) (fun _ _ _ h => h) (.inl ⟨by kernel_rfl, fun wx hx => by go_simp⟩) (Kept.refl _) ?_
      refine wpAnyH_take (i := 1) (v := .slice (some ⟨b, f, none⟩) ts.length tc) rfl (by kernel_rfl) (by kernel_rfl) (by kernel_rfl) (fun _ _ _ h => h) (.inl ⟨by kernel_rfl, fun wx hx => by have k0 := hx.cell s2; go_simp⟩) (Kept.refl _) ?_
      refine wpAnyH_take (i := 2) (v := .int .i64 (x : Int)) rfl (by kernel_rfl) (by kernel_rfl) (by kernel_rfl) (fun _ _ _ h => h) (.inl ⟨by kernel_rfl, fun wx hx => by go_simp⟩) (Kept.refl _) ?_
      refine wpAnyH_take (i := 3) (v := .pointer (some ⟨b, f + x * 5, none⟩)) rfl (by kernel_rfl) (by kernel_rfl) (by kernel_rfl) (fun _ _ _ h => h) (.inl ⟨by kernel_rfl, fun wx hx => by go_simp⟩) (Kept.refl _) ?_
      refine wpAnyH_take (i := 4) (v := .agg #[.string (B nm), .int .i64 pd, .int .i64 dl, .int .i64 bu, .slice pa pr.length pc]) rfl (by kernel_rfl) (by kernel_rfl) (by kernel_rfl) (fun _ _ _ h => h) (.inl ⟨by kernel_rfl, fun wx hx => by have k0 := hx.cell d0; have k1 := hx.cell d1; have k2 := hx.cell d2; have k3 := hx.cell d3; have k4 := hx.cell d4; go_simp⟩) (Kept.refl _) ?_
      refine wpAnyH_take (i := 6) (v := .agg #[.int .i64 L, .slice ca nc cc, .slice (some ⟨b, f, none⟩) ts.length tc]) rfl (by kernel_rfl) (by kernel_rfl) (by kernel_rfl) (fun _ _ _ h => h) (.inl ⟨by kernel_rfl, fun wx hx => by have k0 := hx.cell s0; have k1 := hx.cell s1; have k2 := hx.cell s2; go_simp⟩) (Kept.refl _) ?_
      refine wpAnyH_take (i := 8) (v := .int .i64 (x : Int)) rfl (by kernel_rfl) (by kernel_rfl) (by kernel_rfl) (fun _ _ _ h => h) (.inl ⟨by kernel_rfl, fun wx hx => by go_simp⟩) (Kept.refl _) ?_
      refine wpAnyH_take (i := 12) (v := .slice la (ldsOf ts x).length lc) rfl (by kernel_rfl) (by kernel_rfl) (by kernel_rfl) (fun _ _ _ h => h) (.inl ⟨by kernel_rfl, fun wx hx => by go_simp⟩) (Kept.refl _) ?_
      refine wpAnyH_take (i := 13) (v := .pointer (some ⟨w.heap.size, 2, none⟩)) rfl (by kernel_rfl) (by kernel_rfl) (by kernel_rfl) (fun _ _ _ h => h) (.inl ⟨by kernel_rfl, fun wx hx => by go_simp⟩) (Kept.refl _) ?_
      refine wpAnyH_take (i := 14) (v := .slice (some ⟨b, f, none⟩) ts.length tc) rfl (by kernel_rfl) (by kernel_rfl) (by kernel_rfl) (fun _ _ _ h => h) (.inl ⟨by kernel_rfl, fun wx hx => by have k0 := hx.cell s2; go_simp⟩) (Kept.refl _) ?_
      refine wpAnyH_take (i := 15) (v := .int .i64 (x : Int)) rfl (by kernel_rfl) (by kernel_rfl) (by kernel_rfl) (fun _ _ _ h => h) (.inl ⟨by kernel_rfl, fun wx hx => by go_simp⟩) (Kept.refl _) ?_
      refine wpAnyH_take (i := 16) (v := .pointer (some ⟨b, f + x * 5, none⟩)) rfl (by kernel_rfl) (by kernel_rfl) (by kernel_rfl) (fun _ _ _ h => h) (.inl ⟨by kernel_rfl, fun wx hx => by go_simp⟩) (Kept.refl _) ?_
      refine wpAnyH_take (i := 17) (v := .pointer (some ⟨b, f + x * 5 + 2, none⟩)) rfl (by kernel_rfl) (by kernel_rfl) (by kernel_rfl) (fun _ _ _ h => h) (.inl ⟨by kernel_rfl, fun wx hx => by go_simp⟩) (Kept.refl _) ?_
      refine wpAnyH_take (i := 18) (v := .int .i64 dl) rfl (by kernel_rfl) (by kernel_rfl) (by kernel_rfl) (fun _ _ _ h => h) (.inl ⟨by kernel_rfl, fun wx hx => by have k0 := hx.cell d2; go_simp⟩) (Kept.refl _) ?_
      refine wpAnyH_call (i := 5) (f := 10) (vals := #[.agg #[.string (B nm), .int .i64 pd, .int .i64 dl, .int .i64 bu, .slice pa pr.length pc]]) rfl (by kernel_rfl) (by kernel_rfl) (by kernel_rfl) ((HND.out _ KD).mono ?_)
      rintro e w5 ⟨rfl, T5⟩
      refine ⟨_, rfl, T5, ?_⟩
      have K5 := KD.trans T5
      refine wpAnyH_call (i := 7) (f := 22) (vals := #[.agg #[.int .i64 L, .slice ca nc cc, .slice (some ⟨b, f, none⟩) ts.length tc]]) rfl (by kernel_rfl) (by kernel_rfl) (by kernel_rfl) ((HBK.out _ K5).mono ?_)
      rintro e w6 ⟨g6, rfl, c6, T6⟩
      refine ⟨_, rfl, T5.trans T6, ?_⟩
      have K6 := K5.trans T6
      refine wpAnyH_weak (S' := fun w' => Kept w6 w') (fun w' h => (T5.trans T6).trans h) _ _ _ _ ?_
      refine wpAnyH_take (i := 9) (v := .pointer (some ⟨g6, x, none⟩)) rfl (by kernel_rfl) (by kernel_rfl) (by kernel_rfl) (fun _ _ _ h => h) (.inl ⟨by kernel_rfl, fun wx hx => by go_simp⟩) (Kept.refl _) ?_
      refine wpAnyH_take (i := 10) (v := .int .i64 bk) rfl (by kernel_rfl) (by kernel_rfl) (by kernel_rfl) (fun _ _ _ h => h) (.inl ⟨by kernel_rfl, fun wx hx => by have k0 := hx.cell c6; go_simp⟩) (Kept.refl _) ?_
      refine wpAnyH_take (i := 11) (v := .int .i64 (nd + bk)) rfl (by kernel_rfl) (by kernel_rfl) (by kernel_rfl) (fun _ _ _ h => h) (.inl ⟨by kernel_rfl, fun wx hx => by go_simp; simp [IntKind.wrap, IntKind.bits, IntKind.signed]; omega⟩) (Kept.refl _) ?_
      refine wpAnyH_call (i := 19) (f := 21) (vals := #[.int .i64 (nd + bk), .slice la (ldsOf ts x).length lc, .int .i64 dl]) rfl (by kernel_rfl) (by kernel_rfl) (by kernel_rfl) ((rfix_any la lc (ldsOf ts x) (nd + bk) dl w6 ((AL.out.kept T5).kept T6) HLE.out (by omega)).mono ?_)
      rintro e w8 ⟨rfl, T8⟩
      refine ⟨_, rfl, T8, ?_⟩
      have K8 := K6.trans T8
      rw [HFX.out]
      simp only [trio]
      refine wpAnyH_take (i := 20) (v := .tuple #[.int .i64 z1, .int .i64 z2, .int .i64 z3]) rfl (by kernel_rfl) (by kernel_rfl) (by kernel_rfl) (fun _ _ _ h => h) (.inl ⟨by kernel_rfl, fun wx hx => by go_simp⟩) T8 ?_
      refine wpAnyH_take (i := 21) (v := .int .i64 z1) rfl (by kernel_rfl) (by kernel_rfl) (by kernel_rfl) (fun _ _ _ h => h) (.inl ⟨by kernel_rfl, fun wx hx => by go_simp⟩) T8 ?_
      refine wpAnyH_take (i := 22) (v := .int .i64 z2) rfl (by kernel_rfl) (by kernel_rfl) (by kernel_rfl) (fun _ _ _ h => h) (.inl ⟨by kernel_rfl, fun wx hx => by go_simp⟩) T8 ?_
      refine wpAnyH_take (i := 23) (v := .int .i64 z3) rfl (by kernel_rfl) (by kernel_rfl) (by kernel_rfl) (fun _ _ _ h => h) (.inl ⟨by kernel_rfl, fun wx hx => by go_simp⟩) T8 ?_
      refine wpAnyH_take (i := 24) (v := .int .i64 z1) rfl (by kernel_rfl) (by kernel_rfl) (by kernel_rfl) (fun _ _ _ h => h) (.inl ⟨by kernel_rfl, fun wx hx => by go_simp⟩) T8 ?_
      refine wpAnyH_take (i := 25) (v := .int .i64 z2) rfl (by kernel_rfl) (by kernel_rfl) (by kernel_rfl) (fun _ _ _ h => h) (.inl ⟨by kernel_rfl, fun wx hx => by go_simp⟩) T8 ?_
      refine wpAnyH_take (i := 26) (v := .int .i64 z3) rfl (by kernel_rfl) (by kernel_rfl) (by kernel_rfl) (fun _ _ _ h => h) (.inl ⟨by kernel_rfl, fun wx hx => by go_simp⟩) T8 ?_
      refine wpAnyH_done (by kernel_rfl) ?_ _
      go_wp2_with fail
      go_ret2
      rw [HZ.out]
      exact ⟨rfl, K8⟩
theorem flats_ex {ts : List TaskD} (h : ∀ t ∈ ts, checkP t.prog = (0, 0)) : ∃ F : Nat → List OpD, ∀ (i : Nat) (t : TaskD), ts[i]? = some t → Bal 3 0 0 t.prog (F i) := by
  refine ⟨fun i => match ts[i]? with
    | some t => Classical.epsilon (fun f => Bal 3 0 0 t.prog f)
    | none => [], fun i t hi => ?_⟩
  simp only [hi]
  obtain ⟨_, _, _, f, hb, _⟩ := taken_prog (h t (List.mem_of_getElem? hi))
  exact Classical.epsilon_spec (p := fun f => Bal 3 0 0 t.prog f) ⟨f, hb⟩
theorem ofD_ok {F : Nat → List OpD} {ts : List TaskD} {L : Nat} {i z1 : Int} (h : ofD F ts L i = (z1, 0)) (_hpg : ∀ t ∈ ts, checkP t.prog = (0, 0)) (hbd : ∀ t ∈ ts, 1 ≤ t.budget ∧ t.budget ≤ 1099511627776) :
    ∃ x : Nat, i = (x : Int) ∧ x < ts.length ∧ needX ts x ≤ z1 ∧ z1 ≤ dlT ts x := by
  unfold ofD at h
  split at h
  · rename_i hi
    obtain ⟨x, rfl⟩ : ∃ x : Nat, i = (x : Int) := ⟨i.toNat, by omega⟩
    refine ⟨x, rfl, by omega, ?_⟩
    rw [Int.toNat_natCast] at h
    simp only [Prod.mk.injEq] at h
    obtain ⟨h1, h2⟩ := h
    have hbx := blkX_nn F ts L x
    have hbl := blkX_le (F := F) (L := L) (x := x) (fun t ht => (hbd t ht).2)
    have hxl : x < ts.length := by omega
    have hnd : needX ts x ≤ 1099511627776 := by
      unfold needX
      rw [List.getElem?_eq_getElem hxl]
      have := hbd ts[x] (List.getElem_mem hxl)
      simp only
      omega
    obtain ⟨⟨q, n, e⟩, hq⟩ : ∃ z, respX F ts L x = z := ⟨_, rfl⟩
    rw [hq] at h1 h2
    simp only at h1 h2
    subst h1 h2
    obtain ⟨_, _, _, h5, h6, _⟩ := fixT_out (by omega) hq
    exact ⟨by omega, h6⟩
  · simp at h
set_option maxHeartbeats 8000000 in
set_option maxRecDepth 20000 in
theorem rse_law (L i : Int) (ca ta : Option Addr) (cc tc : Nat) (cs : List ChanD) (ts : List TaskD) (w : World) (hr : Rdy w) (hH : AtH w ca cs) (hA : AtT w ta ts) :
    Calls Tryz.prog 3 #[.agg #[.int .i64 L, .slice ca cs.length cc, .slice ta ts.length tc], .int .i64 i] w fun e w' => e = .returned (.bool true) ∧ Kept w w' := by
  have HR : Hid (Rdy w) := hr
  have HH : Hid (AtH w ca cs) := hH
  have HA : Hid (AtT w ta ts) := hA
  have K0 := (Kept.refl w).alloc (.cells #[.int .i64 L, .slice ca cs.length cc, .slice ta ts.length tc] 25)
  have HB : Hid (Box w.heap.size (w.alloc (.cells #[.int .i64 L, .slice ca cs.length cc, .slice ta ts.length tc] 25)) 25 w.heap.size [.int .i64 L, .slice ca cs.length cc, .slice ta ts.length tc]) := box_new w.heap.size w 25 [.int .i64 L, .slice ca cs.length cc, .slice ta ts.length tc] (Nat.le_refl _) (by simp)
  have hk := lknown_true (w.alloc (.cells #[.int .i64 L, .slice ca cs.length cc, .slice ta ts.length tc] 25)) (HR.out.kept K0)
  clear hr hH hA
  go_enter Tryz.func3, Tryz.ntmps3
  go_wp2_with fail
  refine hk.mono ?_
  rintro e w1 ⟨rfl, T1⟩
  have K1 := K0.trans T1
  have HB1 : Hid (Box w.heap.size w1 25 w.heap.size [.int .i64 L, .slice ca cs.length cc, .slice ta ts.length tc]) := HB.out.kept T1
  clear hk HB K0 T1
  have s0 : w1.cell? ⟨w.heap.size, 0, none⟩ = some (.int .i64 L) := HB1.out.cell 0 (by simp)
  have s1 : w1.cell? ⟨w.heap.size, 1, none⟩ = some (.slice ca cs.length cc) := HB1.out.cell 1 (by simp)
  have s2 : w1.cell? ⟨w.heap.size, 2, none⟩ = some (.slice ta ts.length tc) := HB1.out.cell 2 (by simp)
  have hck := rcset_any L ca ta cc tc cs ts w1 (HH.out.kept K1) (HA.out.kept K1)
  obtain ⟨q1, hq1⟩ : ∃ q, (checkS L cs ts).1 = q := ⟨_, rfl⟩
  obtain ⟨q2, hq2⟩ : ∃ q, (checkS L cs ts).2 = q := ⟨_, rfl⟩
  rw [hq1, hq2] at hck
  have HQ : Hid ((checkS L cs ts).2 = q2) := hq2
  clear hq1 hq2
  go_wp2_with fail
  refine hck.mono ?_
  rintro e w2 ⟨rfl, T2⟩
  have K2 := K1.trans T2
  have HB2 : Hid (Box w.heap.size w2 25 w.heap.size [.int .i64 L, .slice ca cs.length cc, .slice ta ts.length tc]) := HB1.out.kept T2
  clear s0 s1 s2 hck HB1 T2 K1
  have s0 : w2.cell? ⟨w.heap.size, 0, none⟩ = some (.int .i64 L) := HB2.out.cell 0 (by simp)
  have s1 : w2.cell? ⟨w.heap.size, 1, none⟩ = some (.slice ca cs.length cc) := HB2.out.cell 1 (by simp)
  have s2 : w2.cell? ⟨w.heap.size, 2, none⟩ = some (.slice ta ts.length tc) := HB2.out.cell 2 (by simp)
  have hfw := sfew_any L ca ta cc tc cs ts w2 (HA.out.kept K2)
  obtain ⟨fb, hfb⟩ : ∃ fb, fewS cs ts = fb := ⟨_, rfl⟩
  rw [hfb] at hfw
  have HFB : Hid (fewS cs ts = fb) := hfb
  clear hfb
  go_wp2_with fail
  refine hfw.mono ?_
  rintro e w3 ⟨rfl, T3⟩
  have K3 := K2.trans T3
  have HB3 : Hid (Box w.heap.size w3 25 w.heap.size [.int .i64 L, .slice ca cs.length cc, .slice ta ts.length tc]) := HB2.out.kept T3
  clear s0 s1 s2 hfw HB2 T3 K2
  cases fb with
  | false =>
    go_wp2_with fail
    go_ret
    exact ⟨rfl, K3⟩
  | true =>
  by_cases hq0 : q2 = 0
  rotate_left
  · have hne : (q2 != 0) = true := by simpa using hq0
    go_wp2_with fail
    go_ret
    exact ⟨rfl, K3⟩
  subst hq0
  obtain ⟨hn1, hn12, hc8, hL0, hL8⟩ := checkS_len HQ.out
  have HALL : Hid (∀ t ∈ ts, (checkP t.prog).2 = 0 ∧ timesB t = true ∧ hasAllB L cs.length t.prog = true) := checkS_all HQ.out
  have HPG : Hid (∀ t ∈ ts, checkP t.prog = (0, 0)) := fun t ht => prog_0 (HALL.out t ht).1
  have HBD : Hid (∀ t ∈ ts, 1 ≤ t.budget ∧ t.budget ≤ 1099511627776) := fun t ht => by
    have h := (HALL.out t ht).2.1
    simp only [timesB, Bool.and_eq_true, decide_eq_true_eq] at h
    omega
  have HLK : Hid (∀ t ∈ ts, ∀ x ∈ locksD t.prog, 0 ≤ x ∧ x < L) := fun t ht => locks_in (HPG.out t ht) (HALL.out t ht).2.2
  obtain ⟨N, rfl⟩ : ∃ N : Nat, L = (N : Int) := ⟨L.toNat, by omega⟩
  obtain ⟨F, hF⟩ := flats_ex HPG.out
  have HF : Hid (∀ (i : Nat) (t : TaskD), ts[i]? = some t → Bal 3 0 0 t.prog (F i)) := hF
  obtain ⟨_, _, hok⟩ := fewS_ok HFB.out
  have HOK : Hid (TsOk ts) := hok
  have HN : Hid (1 ≤ ts.length ∧ ts.length ≤ 12 ∧ N ≤ 8) := ⟨hn1, hn12, by omega⟩
  have hto := sto_any (N : Int) ca ta cc tc cs ts w3 (HH.out.kept K3) (HA.out.kept K3) hok (by omega) (by omega)
  have s0 : w3.cell? ⟨w.heap.size, 0, none⟩ = some (.int .i64 (N : Int)) := HB3.out.cell 0 (by simp)
  have s1 : w3.cell? ⟨w.heap.size, 1, none⟩ = some (.slice ca cs.length cc) := HB3.out.cell 1 (by simp)
  have s2 : w3.cell? ⟨w.heap.size, 2, none⟩ = some (.slice ta ts.length tc) := HB3.out.cell 2 (by simp)
  clear HQ HFB hok hF hL0 hL8 hc8 hn1 hn12
  go_wp2_with fail
  refine hto.mono ?_
  rintro e w4 ⟨xa, xc, ya, yc, rfl, -, AX, -, T4⟩
  have K4 := K3.trans T4
  have HB4 : Hid (Box w.heap.size w4 25 w.heap.size [.int .i64 (N : Int), .slice ca cs.length cc, .slice ta ts.length tc]) := HB3.out.kept T4
  have hof := rof_any N xa ya cs.length xc yc ts F i w4 (HR.out.kept K4) AX HOK.out HN.out.1 HN.out.2.1 HN.out.2.2 HPG.out HF.out HBD.out
  obtain ⟨⟨z1, z3⟩, hz⟩ : ∃ z, ofD F ts N i = z := ⟨_, rfl⟩
  have HZ : Hid (ofD F ts N i = (z1, z3)) := hz
  rw [hz] at hof
  clear s0 s1 s2 hto AX T4 K3 HB3 hz
  go_wp2_with fail
  refine hof.mono ?_
  rintro e w5 ⟨rfl, T5⟩
  have K5 := K4.trans T5
  have HB5 : Hid (Box w.heap.size w5 25 w.heap.size [.int .i64 (N : Int), .slice ca cs.length cc, .slice ta ts.length tc]) := HB4.out.kept T5
  have s0 : w5.cell? ⟨w.heap.size, 0, none⟩ = some (.int .i64 (N : Int)) := HB5.out.cell 0 (by simp)
  have s1 : w5.cell? ⟨w.heap.size, 1, none⟩ = some (.slice ca cs.length cc) := HB5.out.cell 1 (by simp)
  have s2 : w5.cell? ⟨w.heap.size, 2, none⟩ = some (.slice ta ts.length tc) := HB5.out.cell 2 (by simp)
  have hrs := rresp_any N ca ta cs.length cc tc ts F i w5 (HA.out.kept K5) HN.out.2.1 (by have := HN.out; omega) HPG.out HF.out HLK.out HBD.out
  rw [HZ.out] at hrs
  clear hof T5 K4 HB4
  go_wp2_with fail
  refine hrs.mono ?_
  rintro e w6 ⟨rfl, T6⟩
  have K6 := K5.trans T6
  have HB6 : Hid (Box w.heap.size w6 25 w.heap.size [.int .i64 (N : Int), .slice ca cs.length cc, .slice ta ts.length tc]) := HB5.out.kept T6
  clear hrs T6 K5 HB5 s0 s1 s2
  have s2 : w6.cell? ⟨w.heap.size, 2, none⟩ = some (.slice ta ts.length tc) := HB6.out.cell 2 (by simp)
  by_cases hz3 : z3 = 0
  rotate_left
  · have hne : (z3 != 0) = true := by simpa using hz3
    clear HZ
    go_wp2_with fail
    go_ret
    exact ⟨rfl, K6⟩
  subst hz3
  obtain ⟨x, rfl, hx, h1, h2⟩ := ofD_ok HZ.out HPG.out HBD.out
  obtain ⟨b, f, nm, pd, dl, bu, pr, pa, pc, rfl, htj, d0, d1, d2, d3, d4, hpl, hpa, hbw, -⟩ := (HA.out.kept K6).get x hx
  have hnx : needX ts x = min (costD pr) bu := by unfold needX; rw [htj]
  have hdx : dlT ts x = dl := by unfold dlT; rw [htj]
  have hnd := rneed_any nm pd dl bu pr pa pc w6 hpa hpl (HPG.out _ (List.mem_of_getElem? htj))
  rw [← hnx] at hnd
  rw [hdx] at h2
  obtain ⟨nv, hnv⟩ : ∃ z, needX ts x = z := ⟨_, rfl⟩
  rw [hnv] at hnd h1
  have r3 : (0 : Int) ≤ (x : Int) := by omega
  have r4 : (x : Int) < (ts.length : Int) := by omega
  have g1 : z1 ≥ nv := h1
  have HD : Hid (∀ wx, Kept w6 wx → wx.cell? ⟨w.heap.size, 2, none⟩ = some (.slice (some ⟨b, f, none⟩) ts.length tc) ∧ wx.cell? ⟨b, f + x * 5 + 2, none⟩ = some (.int .i64 dl)) := fun wx kx => ⟨kx.cell s2, kx.cell d2⟩
  clear hnx hdx hnv htj hpl hpa HZ
  go_wp2_with fail
  refine hnd.mono ?_
  rintro e w7 ⟨rfl, T7⟩
  have K7 := K6.trans T7
  obtain ⟨t2, e2⟩ := HD.out w7 T7
  clear hnd s2 d0 d1 d2 d3 d4
  go_wp2_with fail
  go_ret
  exact ⟨rfl, K7⟩
end Go.Proofs.YtlkbphogpbcjfaaGreatDoor
