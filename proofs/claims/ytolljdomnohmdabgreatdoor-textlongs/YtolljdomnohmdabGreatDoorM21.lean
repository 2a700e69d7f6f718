/- text.Print of any set. -/
import Derived.ProofKit
import Derived.OpenShut
import Derived.ShutString
import Derived.ChangeOld
import Derived.ChangeArms
import Derived.WideShapes
import Derived.Below
import Derived.Deep.Slices
import Derived.Deep.SlicePairs
import Derived.Test.YtolljdomnohmdabGreatDoorM13
import Derived.Test.YtolljdomnohmdabGreatDoorQStA
import Derived.Test.YtolljdomnohmdabGreatDoorM2
import Derived.Test.YtolljdomnohmdabGreatDoorCas
import Derived.Test.YtolljdomnohmdabGreatDoorCheck
import Derived.Test.YtolljdomnohmdabGreatDoorM3
import Derived.Test.YtolljdomnohmdabGreatDoorM4
import Derived.Test.YtolljdomnohmdabGreatDoorM0
import Derived.Test.YtolljdomnohmdabGreatDoorM1
import Derived.Test.YtolljdomnohmdabGreatDoorOpT
import Derived.Test.YtolljdomnohmdabGreatDoorPar
import Derived.Test.YtolljdomnohmdabGreatDoorM7
import Derived.Test.YtolljdomnohmdabGreatDoorTxt
import Derived.Test.YtolljdomnohmdabGreatDoorRWrd
import Derived.Test.YtolljdomnohmdabGreatDoorM5
import Derived.Test.YtolljdomnohmdabGreatDoorRead
import Derived.Test.YtolljdomnohmdabGreatDoorM8
import Derived.Test.YtolljdomnohmdabGreatDoorTrn
import Derived.Test.YtolljdomnohmdabGreatDoorM14
import Derived.Test.YtolljdomnohmdabGreatDoorM20
import Derived.Test.YtolljdomnohmdabGreatDoorOfS
import Derived.Test.YtolljdomnohmdabGreatDoorM16
namespace Go.Proofs.YtolljdomnohmdabGreatDoor
open Go.RowKit Go.Shelf

theorem kept_b {w0 w w' : World} {b : Nat} (k : Kept w0 w) (h : Below b w w') (hb : w0.heap.size = b) : Kept w0 w' := by
  subst hb
  exact Below.trans k h
theorem oper_calls {P : Program} {Q : Exit → Act → World → Prop} {o : Oper} {a : Act} {w : World} {K : Act → World → Prop} {f : FuncId} {vals : Array Value} (hx : (execOp a.eval o).run P w = .ok (.enter f vals) w) (h : Calls P f vals w fun e w' => ∃ v, e = .returned v ∧ K (a.put o.dst v) w') : Oper.wp P o a w K Q := by
  unfold Oper.wp
  rw [hx, Oper.upon_enter]
  refine h.mono ?_
  rintro e w' ⟨v, rfl, k⟩
  exact k
theorem step_call {P : Program} {ops : Array Oper} {Q : Exit → Act → World → Prop} {o : Oper} {a : Act} {w : World} {K : Act → World → Prop} {E : Prop} (f : FuncId) (vals : Array Value) (hg : Region.wanted o (yielded ops a.tmps) = true) (hx : (execOp a.eval o).run P w = .ok (.enter f vals) w) (h : Calls P f vals w fun e w' => ∃ v, e = .returned v ∧ K (a.put o.dst v) w') : if Region.wanted o (yielded ops a.tmps) = true then Oper.wp P o a w K Q else E := by
  rw [if_pos hg]
  exact oper_calls hx h
/-- A line of words that are written. -/
theorem wline_lit (b n : Nat) (ws : List (List UInt8)) (cells : Array Value) (hcells : cells = (ws.map (fun x => Value.string (B x))).toArray) (hn : n = ws.length) (l : List UInt8) (w : World) (hb : Bldr b l w) (hB : b ≤ w.heap.size) (h5 : ws.length ≤ 1000) (hl : l.length + (joinW ws).length ≤ 100000000) :
    Calls Tryz.prog 19 #[.pointer (some ⟨b, 0, none⟩), .slice (some ⟨w.heap.size, 0, none⟩) n n] (w.alloc (.cells cells 9)) fun e w' => e = .returned (.tuple #[]) ∧ Bldr b (l ++ wlD ws) w' ∧ KB b w w' := by
  have K := (Kept.refl w).alloc (.cells cells 9)
  refine (wline_any b w.heap.size n ws l (w.alloc (.cells cells 9)) (bld_kept hb K) (Nat.le_trans hB K.size) (fun j x hj => ?_) (by simp) hn h5 hl).mono ?_
  · rw [World.cell?_alloc_at _ _ _ _ rfl, hcells]
    simp [hj]
  · rintro e w' ⟨rfl, b', k'⟩
    exact ⟨rfl, b', (KB.kept K hB).trans k'⟩

set_option maxHeartbeats 8000000 in
set_option maxRecDepth 20000 in
theorem print_any (L : Int) (ca ta : Option Addr) (cc tc : Nat) (cs : List ChanD) (ts : List TaskD) (w : World) (hr : Rdy w) (hH : AtH w ca cs) (hA : AtT w ta ts) (hok : TsOk ts) (hl : ts.length ≤ 100000) (hcl : cs.length ≤ 100000) (hi : ∀ t ∈ ts, ∀ o ∈ t.prog, In64 o) :
    Calls Tryz.prog 8 #[.agg #[.int .i64 L, .slice ca cs.length cc, .slice ta ts.length tc]] w fun e w' => e = .returned (.tuple #[.string (B (if (checkS L cs ts).2 = 0 then textS L cs ts else [])), .int .i64 (checkS L cs ts).2]) ∧ Kept w w' := by
  have HR : Hid (Rdy w) := hr
  have HH : Hid (AtH w ca cs) := hH
  have HA : Hid (AtT w ta ts) := hA
  have HOK : Hid (TsOk ts) := hok
  have HI : Hid (∀ t ∈ ts, ∀ o ∈ t.prog, In64 o) := hi
  have K0 := (Kept.refl w).alloc (.cells #[.int .i64 L, .slice ca cs.length cc, .slice ta ts.length tc] 27)
  have HB : Hid (Box w.heap.size (w.alloc (.cells #[.int .i64 L, .slice ca cs.length cc, .slice ta ts.length tc] 27)) 27 w.heap.size [.int .i64 L, .slice ca cs.length cc, .slice ta ts.length tc]) := box_new w.heap.size w 27 [.int .i64 L, .slice ca cs.length cc, .slice ta ts.length tc] (Nat.le_refl _) (by simp)
  have hck := scheck_any L ca ta cc tc cs ts (w.alloc (.cells #[.int .i64 L, .slice ca cs.length cc, .slice ta ts.length tc] 27)) (HR.out.kept K0) (HH.out.kept K0) (HA.out.kept K0) hok hl hcl
  obtain ⟨q1, hq1⟩ : ∃ q, (checkS L cs ts).1 = q := ⟨_, rfl⟩
  obtain ⟨q2, hq2⟩ : ∃ q, (checkS L cs ts).2 = q := ⟨_, rfl⟩
  rw [hq1, hq2] at hck
  rw [hq2]
  have HQ : Hid ((checkS L cs ts).2 = q2) := hq2
  obtain ⟨rt, hrt⟩ : ∃ z, (if q2 = 0 then textS L cs ts else []) = z := ⟨_, rfl⟩
  rw [hrt]
  have HRT : Hid ((if q2 = 0 then textS L cs ts else []) = rt) := hrt
  clear hr hH hA hok hi hq1 hq2 hrt
  go_enter Tryz.func8, Tryz.ntmps8
  go_wp2_with fail
  refine hck.mono ?_
  rintro e w2 ⟨rfl, T2⟩
  have K2 := K0.trans T2
  have HB2 : Hid (Box w.heap.size w2 27 w.heap.size [.int .i64 L, .slice ca cs.length cc, .slice ta ts.length tc]) := HB.out.kept T2
  clear hck HB K0 T2
  by_cases hq0 : q2 = 0
  rotate_left
  · have hne : (q2 != 0) = true := by simpa using hq0
    obtain rfl : rt = [] := by rw [← HRT.out, if_neg hq0]
    go_wp2_with fail
    go_ret2
    exact ⟨rfl, K2⟩
  subst hq0
  obtain rfl : rt = textS L cs ts := by rw [← HRT.out, if_pos rfl]
  have HS : Hid (SetOk L cs ts) := set_ok HQ.out
  have HLN : Hid ((textS L cs ts).length ≤ 1000000) := textS_len HS.out HI.out
  have hL64 := in64_of (n := L) (by have := HS.out.L0; omega) (by have := HS.out.L0; omega)
  have BF := bld_new w2
  have HB3 : Hid (Box w.heap.size (w2.alloc (.cells #[.pointer none, .slice none 0 0] 65)) 27 w.heap.size [.int .i64 L, .slice ca cs.length cc, .slice ta ts.length tc]) := HB2.out.kept ((Kept.refl w2).alloc _)
  have K3 : Kept w2 (w2.alloc (.cells #[.pointer none, .slice none 0 0] 65)) := (Kept.refl w2).alloc _
  have s0 : (w2.alloc (.cells #[.pointer none, .slice none 0 0] 65)).cell? ⟨w.heap.size, 0, none⟩ = some (.int .i64 L) := HB3.out.cell 0 (by simp)
  have htx := text_any L hL64.1 hL64.2 (w2.alloc (.cells #[.pointer none, .slice none 0 0] 65)) (HR.out.kept (K2.trans K3))
  obtain ⟨b, hbb⟩ : ∃ b, w2.heap.size = b := ⟨_, rfl⟩
  rw [hbb] at BF
  have HBF : Hid (Bldr b [] (w2.alloc (.cells #[.pointer none, .slice none 0 0] 65))) := BF
  clear BF
  go_wp2_with fail
  refine htx.mono ?_
  rintro e w4 ⟨rfl, T4⟩
  have K4 : Kept w2 w4 := K3.trans T4
  have hB4 : b ≤ w4.heap.size := by rw [← hbb]; exact K4.size
  have HTL : Hid (textS L cs ts = wlD [locksW, Lib.itoa L] ++ ((cs.drop 0).flatMap chanL ++ ts.flatMap taskL)) := rfl
  have hwl := wline_lit b 2 [locksW, Lib.itoa L] #[.string ⟨#[108, 111, 99, 107, 115]⟩, .string (B (Lib.itoa L))] rfl rfl [] w4 (bld_kept HBF.out T4) hB4 (by simp) (by
    have h := HLN.out
    rw [HTL.out, List.length_append] at h
    unfold wlD at h
    rw [List.length_append] at h
    simp only [List.length_nil]
    omega)
  clear htx HBF HB3 s0 K3 T4
  go_wp2_with fail
  refine hwl.mono ?_
  rintro e w5 ⟨rfl, b5, T5⟩
  have hB2 : w2.heap.size = b := hbb
  have K5 : Kept w2 w5 := kept_b K4 T5.low hB2
  have HX0 : Hid (∃ l, Bldr b l w5 ∧ textS L cs ts = l ++ ((cs.drop 0).flatMap chanL ++ ts.flatMap taskL)) := ⟨_, b5, HTL.out⟩
  clear hwl b5 T5 K4 hB4
  have s1 : w5.cell? ⟨w.heap.size, 1, none⟩ = some (.slice ca cs.length cc) := (HB2.out.kept K5).cell 1 (by simp)
  go_wp2_with fail
  go_loopg [29] cs.length (fun gk is wr => ∃ (i : Nat) (W : World), W = wr ∧ is = .int .i64 i ∧ i + gk = cs.length ∧ Hid (∃ l, Bldr b l W ∧ textS L cs ts = l ++ ((cs.drop i).flatMap chanL ++ ts.flatMap taskL)) ∧ Kept w2 W)
  case atStart => exact ⟨0, _, rfl, rfl, by omega, HX0, K5⟩
  case round =>
    obtain ⟨i, W, hW, rfl, hi, HX, K⟩ := hrel
    subst hW
    by_cases hin : i < cs.length
    · have b1 : (i : Int) < (cs.length : Int) := by omega
      have b2 : (0 : Int) ≤ (i : Int) := by omega
      obtain ⟨gm, rfl⟩ : ∃ g, gk = g + 1 := ⟨gk - 1, by omega⟩
      obtain ⟨hb0, hf0, r, s, rfl, hcj, g0, g1, hdr⟩ := (HH.out.kept (K2.trans K)).get i hin
      obtain ⟨l, hbl, htl⟩ := HX.out
      have hch := HS.out.ch _ (List.mem_of_getElem? hcj)
      simp only at hch
      have HNX : Hid (textS L cs ts = (l ++ chanL ⟨r, s⟩) ++ ((cs.drop (i + 1)).flatMap chanL ++ ts.flatMap taskL)) := by
        show _ = _
        rw [htl, hdr, List.flatMap_cons]
        simp [List.append_assoc]
      have hln : l.length + (joinW (chanWs ⟨r, s⟩)).length ≤ 100000000 := by
        have h := HLN.out
        rw [HNX.out, List.length_append, List.length_append] at h
        unfold chanL wlD at h
        rw [List.length_append] at h
        omega
      have HBL : Hid (Bldr b l W) := hbl
      have HC1 : Hid (∀ wx, Kept W wx → Calls Tryz.prog 20 #[.int .i64 r] wx fun e w' => e = .returned (.string (B (Lib.itoa r))) ∧ Kept wx w') := fun wx kx => text_any r (by omega) (by omega) wx (HR.out.kept ((K2.trans K).trans kx))
      have HC2 : Hid (∀ wx, Kept W wx → Calls Tryz.prog 21 #[.int .i64 s] wx fun e w' => e = .returned (.string (B (waitT s))) ∧ Kept wx w') := fun wx kx => serverText_any s (in64_of (by omega) (by omega)) wx (HR.out.kept ((K2.trans K).trans kx))
      have HC3 : Hid (∀ wx, Kept W wx → Calls Tryz.prog 19 #[.pointer (some ⟨b, 0, none⟩), .slice (some ⟨wx.heap.size, 0, none⟩) 3 3] (wx.alloc (.cells #[.string ⟨#[99, 104, 97, 110]⟩, .string (B (Lib.itoa r)), .string (B (waitT s))] 9)) fun e w' => e = .returned (.tuple #[]) ∧ Bldr b (l ++ chanL ⟨r, s⟩) w' ∧ KB b wx w') := fun wx kx => by
        refine (wline_lit b 3 (chanWs ⟨r, s⟩) _ rfl rfl l wx (bld_kept HBL.out kx) (by rw [← hB2]; exact (K.trans kx).size) (by simp [chanWs]) hln).mono ?_
        rintro e w' ⟨rfl, b', k'⟩
        exact ⟨rfl, b', k'⟩
      obtain ⟨t1, ht1⟩ : ∃ t, Lib.itoa r = t := ⟨_, rfl⟩
      obtain ⟨t2, ht2⟩ : ∃ t, waitT s = t := ⟨_, rfl⟩
      rw [ht1] at HC1 HC3
      rw [ht2] at HC2 HC3
      have KQ : Kept W (W.alloc (.cells #[.int .i64 r, .int .i64 s] 60)) := (Kept.refl W).alloc _
      have HQX : Hid (Box W.heap.size (W.alloc (.cells #[.int .i64 r, .int .i64 s] 60)) 60 W.heap.size [.int .i64 r, .int .i64 s]) := box_new W.heap.size W 60 [.int .i64 r, .int .i64 s] (Nat.le_refl _) (by simp)
      have m0 : (W.alloc (.cells #[.int .i64 r, .int .i64 s] 60)).cell? ⟨W.heap.size, 0, none⟩ = some (.int .i64 r) := HQX.out.cell 0 (by simp)
      have m1 : (W.alloc (.cells #[.int .i64 r, .int .i64 s] 60)).cell? ⟨W.heap.size, 1, none⟩ = some (.int .i64 s) := HQX.out.cell 1 (by simp)
      have KQD := KQ.drew
      clear hcj hbl htl hln hdr ht1 ht2 HX hch
      have hS0 := And.intro (((Kept.refl (W.alloc (.cells #[.int .i64 r, .int .i64 s] 60))).drew).cell m0) (((Kept.refl (W.alloc (.cells #[.int .i64 r, .int .i64 s] 60))).drew).cell m1)
      go_wp2_with fail
      refine wp_region_S (by kernel_rfl) 7 (fun w' => w'.cell? ⟨W.heap.size, 0, none⟩ = some (.int .i64 r) ∧ w'.cell? ⟨W.heap.size, 1, none⟩ = some (.int .i64 s)) ?_
      refine wpAnyS_takeC (i := 0) (v := .pointer (some ⟨W.heap.size, 0, none⟩)) [6, 2, 1] rfl (by kernel_rfl) (by kernel_rfl) (by kernel_rfl) (by kernel_rfl) (by kernel_rfl) (fun _ _ _ h => h) hS0 rfl (fun wx hx => by obtain ⟨s1, s2⟩ := hx; go_simp) ?_
      refine wpAnyS_takeC (i := 1) (v := .int .i64 r) [6, 2] rfl (by kernel_rfl) (by kernel_rfl) (by kernel_rfl) (by kernel_rfl) (by kernel_rfl) (fun _ _ _ h => h) hS0 rfl (fun wx hx => by obtain ⟨s1, s2⟩ := hx; go_simp) ?_
      refine wpAnyS_takeC (i := 3) (v := .pointer (some ⟨W.heap.size, 1, none⟩)) [5, 4] rfl (by kernel_rfl) (by kernel_rfl) (by kernel_rfl) (by kernel_rfl) (by kernel_rfl) (fun _ _ _ h => h) hS0 rfl (fun wx hx => by obtain ⟨s1, s2⟩ := hx; go_simp) ?_
      refine wpAnyS_takeC (i := 4) (v := .int .i64 s) [5] rfl (by kernel_rfl) (by kernel_rfl) (by kernel_rfl) (by kernel_rfl) (by kernel_rfl) (fun _ _ _ h => h) hS0 rfl (fun wx hx => by obtain ⟨s1, s2⟩ := hx; go_simp) ?_
      refine wpAnyS_one (i := 2) rfl (by kernel_rfl) (fun K9 hK => ?_)
      refine step_call 20 #[.int .i64 r] (by kernel_rfl) (by kernel_rfl) ((HC1.out _ KQD).mono ?_)
      rintro e w6 ⟨rfl, T6⟩
      have N1 := KQD.trans T6
      have hS1 := And.intro (T6.cell hS0.1) (T6.cell hS0.2)
      refine ⟨_, rfl, hK _ _ (fun _ => hS1) ?_⟩
      clear hK K9 hS0
      refine wpAnyS_one (i := 5) rfl (by kernel_rfl) (fun K9 hK => ?_)
      refine step_call 21 #[.int .i64 s] (by kernel_rfl) (by kernel_rfl) ((HC2.out _ N1).mono ?_)
      rintro e w7 ⟨rfl, T7⟩
      have N2 := N1.trans T7
      have hS2 := And.intro (T7.cell hS1.1) (T7.cell hS1.2)
      refine ⟨_, rfl, hK _ _ (fun _ => hS2) ?_⟩
      clear hK K9 hS1
      refine wpAnyS_one (i := 6) rfl (by kernel_rfl) (fun K9 hK => ?_)
      go_simp
      have KL := (Kept.refl w7).alloc (.cells #[.string ⟨#[99, 104, 97, 110]⟩, .string (B t1), .string (B t2)] 9)
      have hS3 := And.intro (KL.cell hS2.1) (KL.cell hS2.2)
      refine hK _ _ (fun _ => hS3) ?_
      clear hK K9 hS2
      refine wpAnyS_one (i := 7) rfl (by kernel_rfl) (fun K9 hK => ?_)
      refine step_call 19 #[.pointer (some ⟨b, 0, none⟩), .slice (some ⟨w7.heap.size, 0, none⟩) 3 3] (by kernel_rfl) (by kernel_rfl) ((HC3.out w7 N2).mono ?_)
      rintro e w8 ⟨rfl, b8, T8⟩
      have K8 := kept_b (K.trans N2) T8.low hB2
      refine ⟨_, rfl, hK _ _ (fun h => absurd rfl h) ?_⟩
      clear hK K9 hS3 KL
      refine wpAnyS_done (by kernel_rfl) ?_ _
      go_wp2_with fail
      go_roundg gm
      case rel => exact ⟨i + 1, _, rfl, by go_num, by omega, ⟨_, b8, HNX.out⟩, K8⟩
      case measure => omega
    · have b1 : ¬ (i : Int) < (cs.length : Int) := by omega
      have HX1 : Hid (∃ l, Bldr b l W ∧ textS L cs ts = l ++ (ts.drop 0).flatMap taskL) := by
        obtain ⟨l, h1, h2⟩ := HX.out
        refine ⟨l, h1, ?_⟩
        rw [h2, List.drop_eq_nil_of_le (show cs.length ≤ i by omega)]
        rfl
      have s2 : W.cell? ⟨w.heap.size, 2, none⟩ = some (.slice ta ts.length tc) := (HB2.out.kept K).cell 2 (by simp)
      clear HX
      go_wp2_with fail
      go_loopg [45] ts.length (fun gk is wr => ∃ (j : Nat) (W : World), W = wr ∧ is = .int .i64 j ∧ j + gk = ts.length ∧ Hid (∃ l, Bldr b l W ∧ textS L cs ts = l ++ (ts.drop j).flatMap taskL) ∧ Kept w2 W)
      case atStart => exact ⟨0, _, rfl, rfl, by omega, HX1, K⟩
      case round =>
        obtain ⟨j, W, hW, rfl, hj, HX, K⟩ := hrel
        subst hW
        by_cases hjn : j < ts.length
        · have b3 : (j : Int) < (ts.length : Int) := by omega
          have b4 : (0 : Int) ≤ (j : Int) := by omega
          obtain ⟨gm, rfl⟩ : ∃ g, gk = g + 1 := ⟨gk - 1, by omega⟩
          obtain ⟨tb, tf, nm, pd, dl, bu, pr, pa, pc, rfl, htj, y0, y1, y2, y3, y4, hpc, hat, _, hdr⟩ := HA.out.get j hjn
          have KWW := K2.trans K
          have g0 := KWW.cell y0
          have g1 := KWW.cell y1
          have g2 := KWW.cell y2
          have g3 := KWW.cell y3
          have g4 := KWW.cell y4
          clear y0 y1 y2 y3 y4 KWW
          have hmem := List.mem_of_getElem? htj
          obtain ⟨i1, i2, i3⟩ := HS.out.tm _ hmem
          have HPK : Hid (checkP pr = (0, 0)) := HS.out.pg _ hmem
          have HPI : Hid (∀ o ∈ pr, In64 o) := HI.out _ hmem
          simp only at i1 i2 i3
          obtain ⟨l, hbl, htl⟩ := HX.out
          have HNX : Hid (textS L cs ts = (l ++ wlD (taskWs ⟨nm, pd, dl, bu, pr⟩)) ++ ((pr.drop 0).flatMap opL ++ (ts.drop (j + 1)).flatMap taskL)) := by
            show _ = _
            rw [htl, hdr, List.flatMap_cons, List.drop_zero, taskL]
            simp [List.append_assoc]
          have hln : l.length + (joinW (taskWs ⟨nm, pd, dl, bu, pr⟩)).length ≤ 100000000 := by
            have h := HLN.out
            rw [HNX.out, List.length_append, List.length_append] at h
            unfold wlD at h
            rw [List.length_append] at h
            omega
          have HBL : Hid (Bldr b l W) := hbl
          have HC1 : Hid (∀ wx, Kept W wx → Calls Tryz.prog 20 #[.int .i64 pd] wx fun e w' => e = .returned (.string (B (Lib.itoa pd))) ∧ Kept wx w') := fun wx kx => text_any pd i1.1 i1.2 wx (HR.out.kept ((K2.trans K).trans kx))
          have HC2 : Hid (∀ wx, Kept W wx → Calls Tryz.prog 20 #[.int .i64 dl] wx fun e w' => e = .returned (.string (B (Lib.itoa dl))) ∧ Kept wx w') := fun wx kx => text_any dl i2.1 i2.2 wx (HR.out.kept ((K2.trans K).trans kx))
          have HC3 : Hid (∀ wx, Kept W wx → Calls Tryz.prog 20 #[.int .i64 bu] wx fun e w' => e = .returned (.string (B (Lib.itoa bu))) ∧ Kept wx w') := fun wx kx => text_any bu i3.1 i3.2 wx (HR.out.kept ((K2.trans K).trans kx))
          have HC4 : Hid (∀ wx, Kept W wx → Calls Tryz.prog 19 #[.pointer (some ⟨b, 0, none⟩), .slice (some ⟨wx.heap.size, 0, none⟩) 5 5] (wx.alloc (.cells #[.string ⟨#[116, 97, 115, 107]⟩, .string (B nm), .string (B (Lib.itoa pd)), .string (B (Lib.itoa dl)), .string (B (Lib.itoa bu))] 9)) fun e w' => e = .returned (.tuple #[]) ∧ Bldr b (l ++ wlD (taskWs ⟨nm, pd, dl, bu, pr⟩)) w' ∧ KB b wx w') := fun wx kx => by
            refine (wline_lit b 5 (taskWs ⟨nm, pd, dl, bu, pr⟩) _ rfl rfl l wx (bld_kept HBL.out kx) (by rw [← hB2]; exact (K.trans kx).size) (by simp [taskWs]) hln).mono ?_
            rintro e w' ⟨rfl, b', k'⟩
            exact ⟨rfl, b', k'⟩
          obtain ⟨t1, ht1⟩ : ∃ t, Lib.itoa pd = t := ⟨_, rfl⟩
          obtain ⟨t2, ht2⟩ : ∃ t, Lib.itoa dl = t := ⟨_, rfl⟩
          obtain ⟨t3, ht3⟩ : ∃ t, Lib.itoa bu = t := ⟨_, rfl⟩
          rw [ht1] at HC1 HC4
          rw [ht2] at HC2 HC4
          rw [ht3] at HC3 HC4
          have KQ : Kept W (W.alloc (.cells #[.string (B nm), .int .i64 pd, .int .i64 dl, .int .i64 bu, .slice pa pr.length pc] 33)) := (Kept.refl W).alloc _
          have HQX : Hid (Box W.heap.size (W.alloc (.cells #[.string (B nm), .int .i64 pd, .int .i64 dl, .int .i64 bu, .slice pa pr.length pc] 33)) 33 W.heap.size [.string (B nm), .int .i64 pd, .int .i64 dl, .int .i64 bu, .slice pa pr.length pc]) := box_new W.heap.size W 33 [.string (B nm), .int .i64 pd, .int .i64 dl, .int .i64 bu, .slice pa pr.length pc] (Nat.le_refl _) (by simp)
          have m0 : (W.alloc (.cells #[.string (B nm), .int .i64 pd, .int .i64 dl, .int .i64 bu, .slice pa pr.length pc] 33)).cell? ⟨W.heap.size, 0, none⟩ = some (.string (B nm)) := HQX.out.cell 0 (by simp)
          have m1 : (W.alloc (.cells #[.string (B nm), .int .i64 pd, .int .i64 dl, .int .i64 bu, .slice pa pr.length pc] 33)).cell? ⟨W.heap.size, 1, none⟩ = some (.int .i64 pd) := HQX.out.cell 1 (by simp)
          have m2 : (W.alloc (.cells #[.string (B nm), .int .i64 pd, .int .i64 dl, .int .i64 bu, .slice pa pr.length pc] 33)).cell? ⟨W.heap.size, 2, none⟩ = some (.int .i64 dl) := HQX.out.cell 2 (by simp)
          have m3 : (W.alloc (.cells #[.string (B nm), .int .i64 pd, .int .i64 dl, .int .i64 bu, .slice pa pr.length pc] 33)).cell? ⟨W.heap.size, 3, none⟩ = some (.int .i64 bu) := HQX.out.cell 3 (by simp)
          have hS0 := And.intro (((Kept.refl (W.alloc (.cells #[.string (B nm), .int .i64 pd, .int .i64 dl, .int .i64 bu, .slice pa pr.length pc] 33))).drew).cell m0) (And.intro (((Kept.refl (W.alloc (.cells #[.string (B nm), .int .i64 pd, .int .i64 dl, .int .i64 bu, .slice pa pr.length pc] 33))).drew).cell m1) (And.intro (((Kept.refl (W.alloc (.cells #[.string (B nm), .int .i64 pd, .int .i64 dl, .int .i64 bu, .slice pa pr.length pc] 33))).drew).cell m2) (((Kept.refl (W.alloc (.cells #[.string (B nm), .int .i64 pd, .int .i64 dl, .int .i64 bu, .slice pa pr.length pc] 33))).drew).cell m3)))
          have KQD := KQ.drew
          clear htj hbl htl hln hdr ht1 ht2 ht3 HX hmem
          go_wp2_with fail
          refine wp_region_S (by kernel_rfl) 12 (fun w' => w'.cell? ⟨W.heap.size, 0, none⟩ = some (.string (B nm)) ∧ w'.cell? ⟨W.heap.size, 1, none⟩ = some (.int .i64 pd) ∧ w'.cell? ⟨W.heap.size, 2, none⟩ = some (.int .i64 dl) ∧ w'.cell? ⟨W.heap.size, 3, none⟩ = some (.int .i64 bu)) ?_
          refine wpAnyS_takeC (i := 0) (v := .pointer (some ⟨W.heap.size, 0, none⟩)) [11, 1] rfl (by kernel_rfl) (by kernel_rfl) (by kernel_rfl) (by kernel_rfl) (by kernel_rfl) (fun _ _ _ h => h) hS0 rfl (fun wx hx => by obtain ⟨s1, s2, s3, s4⟩ := hx; go_simp) ?_
          refine wpAnyS_takeC (i := 1) (v := .string (B nm)) [11] rfl (by kernel_rfl) (by kernel_rfl) (by kernel_rfl) (by kernel_rfl) (by kernel_rfl) (fun _ _ _ h => h) hS0 rfl (fun wx hx => by obtain ⟨s1, s2, s3, s4⟩ := hx; go_simp) ?_
          refine wpAnyS_takeC (i := 2) (v := .pointer (some ⟨W.heap.size, 1, none⟩)) [11, 4, 3] rfl (by kernel_rfl) (by kernel_rfl) (by kernel_rfl) (by kernel_rfl) (by kernel_rfl) (fun _ _ _ h => h) hS0 rfl (fun wx hx => by obtain ⟨s1, s2, s3, s4⟩ := hx; go_simp) ?_
          refine wpAnyS_takeC (i := 3) (v := .int .i64 pd) [11, 4] rfl (by kernel_rfl) (by kernel_rfl) (by kernel_rfl) (by kernel_rfl) (by kernel_rfl) (fun _ _ _ h => h) hS0 rfl (fun wx hx => by obtain ⟨s1, s2, s3, s4⟩ := hx; go_simp) ?_
          refine wpAnyS_takeC (i := 5) (v := .pointer (some ⟨W.heap.size, 2, none⟩)) [11, 7, 6] rfl (by kernel_rfl) (by kernel_rfl) (by kernel_rfl) (by kernel_rfl) (by kernel_rfl) (fun _ _ _ h => h) hS0 rfl (fun wx hx => by obtain ⟨s1, s2, s3, s4⟩ := hx; go_simp) ?_
          refine wpAnyS_takeC (i := 6) (v := .int .i64 dl) [11, 7] rfl (by kernel_rfl) (by kernel_rfl) (by kernel_rfl) (by kernel_rfl) (by kernel_rfl) (fun _ _ _ h => h) hS0 rfl (fun wx hx => by obtain ⟨s1, s2, s3, s4⟩ := hx; go_simp) ?_
          refine wpAnyS_takeC (i := 8) (v := .pointer (some ⟨W.heap.size, 3, none⟩)) [11, 10, 9] rfl (by kernel_rfl) (by kernel_rfl) (by kernel_rfl) (by kernel_rfl) (by kernel_rfl) (fun _ _ _ h => h) hS0 rfl (fun wx hx => by obtain ⟨s1, s2, s3, s4⟩ := hx; go_simp) ?_
          refine wpAnyS_takeC (i := 9) (v := .int .i64 bu) [11, 10] rfl (by kernel_rfl) (by kernel_rfl) (by kernel_rfl) (by kernel_rfl) (by kernel_rfl) (fun _ _ _ h => h) hS0 rfl (fun wx hx => by obtain ⟨s1, s2, s3, s4⟩ := hx; go_simp) ?_
          refine wpAnyS_one (i := 4) rfl (by kernel_rfl) (fun K9 hK => ?_)
          refine step_call 20 #[.int .i64 pd] (by kernel_rfl) (by kernel_rfl) ((HC1.out _ KQD).mono ?_)
          rintro e x1 ⟨rfl, T1⟩
          have N1 := KQD.trans T1
          have hS1 := And.intro (T1.cell hS0.1) (And.intro (T1.cell hS0.2.1) (And.intro (T1.cell hS0.2.2.1) (T1.cell hS0.2.2.2)))
          refine ⟨_, rfl, hK _ _ (fun _ => hS1) ?_⟩
          clear hK K9 hS0
          refine wpAnyS_one (i := 7) rfl (by kernel_rfl) (fun K9 hK => ?_)
          refine step_call 20 #[.int .i64 dl] (by kernel_rfl) (by kernel_rfl) ((HC2.out _ N1).mono ?_)
          rintro e x2 ⟨rfl, T2⟩
          have N2 := N1.trans T2
          have hS2 := And.intro (T2.cell hS1.1) (And.intro (T2.cell hS1.2.1) (And.intro (T2.cell hS1.2.2.1) (T2.cell hS1.2.2.2)))
          refine ⟨_, rfl, hK _ _ (fun _ => hS2) ?_⟩
          clear hK K9 hS1
          refine wpAnyS_one (i := 10) rfl (by kernel_rfl) (fun K9 hK => ?_)
          refine step_call 20 #[.int .i64 bu] (by kernel_rfl) (by kernel_rfl) ((HC3.out _ N2).mono ?_)
          rintro e x3 ⟨rfl, T3⟩
          have N3 := N2.trans T3
          have hS3 := And.intro (T3.cell hS2.1) (And.intro (T3.cell hS2.2.1) (And.intro (T3.cell hS2.2.2.1) (T3.cell hS2.2.2.2)))
          refine ⟨_, rfl, hK _ _ (fun _ => hS3) ?_⟩
          clear hK K9 hS2
          refine wpAnyS_one (i := 11) rfl (by kernel_rfl) (fun K9 hK => ?_)
          go_simp
          have KL := (Kept.refl x3).alloc (.cells #[.string ⟨#[116, 97, 115, 107]⟩, .string (B nm), .string (B t1), .string (B t2), .string (B t3)] 9)
          have hS4 := And.intro (KL.cell hS3.1) (And.intro (KL.cell hS3.2.1) (And.intro (KL.cell hS3.2.2.1) (KL.cell hS3.2.2.2)))
          refine hK _ _ (fun _ => hS4) ?_
          clear hK K9 hS3
          refine wpAnyS_one (i := 12) rfl (by kernel_rfl) (fun K9 hK => ?_)
          refine step_call 19 #[.pointer (some ⟨b, 0, none⟩), .slice (some ⟨x3.heap.size, 0, none⟩) 5 5] (by kernel_rfl) (by kernel_rfl) ((HC4.out x3 N3).mono ?_)
          rintro e w8 ⟨rfl, b8, T8⟩
          have K8 := kept_b (K.trans N3) T8.low hB2
          refine ⟨_, rfl, hK _ _ (fun h => absurd rfl h) ?_⟩
          clear hK K9 hS4 KL
          refine wpAnyS_done (by kernel_rfl) ?_ _
          have HX8 : Hid (∃ l, Bldr b l w8 ∧ textS L cs ts = l ++ ((pr.drop 0).flatMap opL ++ (ts.drop (j + 1)).flatMap taskL)) := ⟨_, b8, HNX.out⟩
          have hbW := bld_lt HBL.out
          have HQ8 : Hid (Box W.heap.size w8 33 W.heap.size [.string (B nm), .int .i64 pd, .int .i64 dl, .int .i64 bu, .slice pa pr.length pc]) := T8.box (HQX.out.kept ((((Kept.refl (W.alloc (.cells #[.string (B nm), .int .i64 pd, .int .i64 dl, .int .i64 bu, .slice pa pr.length pc] 33))).drew).trans T1).trans (T2.trans T3))) (by omega) (by decide)
          have m4 : w8.cell? ⟨W.heap.size, 4, none⟩ = some (.slice pa pr.length pc) := HQ8.out.cell 4 (by simp)
          have HAP : Hid (AtP w pa pr) := hat
          clear b8 HQX HC1 HC2 HC3 HC4 m0 m1 m2 m3 KQ KQD N1 N2 N3 T1 T2 T3 HBL hat
          go_wp2_with fail
          go_loopg [65] pr.length (fun gk is wr => ∃ (k : Nat) (W2 : World), W2 = wr ∧ is = .int .i64 k ∧ k + gk = pr.length ∧ Hid (∃ l, Bldr b l W2 ∧ textS L cs ts = l ++ ((pr.drop k).flatMap opL ++ (ts.drop (j + 1)).flatMap taskL)) ∧ Kept w2 W2)
          case atStart => exact ⟨0, _, rfl, rfl, by omega, HX8, K8⟩
          case round =>
            obtain ⟨k, W2, hW, rfl, hk, HX2, KW2⟩ := hrel
            subst hW
            by_cases hkn : k < pr.length
            · have b5 : (k : Int) < (pr.length : Int) := by omega
              have b6 : (0 : Int) ≤ (k : Int) := by omega
              have b7 : (k : Int) < (pc : Int) := by omega
              obtain ⟨gi, rfl⟩ : ∃ g, gk = g + 1 := ⟨gk - 1, by omega⟩
              obtain ⟨ob, of, kd, n, v, wt, lc, oa, oc, rfl, hoj, y0, y1, y2, y3, y4, hoc, hca, _, hdo⟩ := HAP.out.get k hkn
              have KWW := K2.trans KW2
              have c0 := KWW.cell y0
              have c1 := KWW.cell y1
              have c2 := KWW.cell y2
              have c3 := KWW.cell y3
              have c4 := KWW.cell y4
              have hom := List.mem_of_getElem? hoj
              have hcd := (taken_prog HPK.out).2.1 _ hom
              have hpl := (taken_prog HPK.out).1
              have hin64 := HPI.out _ hom
              have hlc : lc.length ≤ 20 := by
                have h1 := taken_of hcd
                have h2 := h1.takes
                by_cases hp : (shapeOf kd.toNat).picks = true
                · have := h1.many hp
                  simp only at this
                  omega
                · simp only [takesB, Bool.and_eq_true, Bool.or_eq_true] at h2
                  rcases h2.2 with h3 | h3
                  · exact absurd h3 hp
                  · have := eq_of_beq h3
                    omega
              obtain ⟨l, hbl, htl⟩ := HX2.out
              have HNY : Hid (textS L cs ts = (l ++ opL ⟨kd, n, v, wt, lc⟩) ++ ((pr.drop (k + 1)).flatMap opL ++ (ts.drop (j + 1)).flatMap taskL)) := by
                show _ = _
                rw [htl, hdo, List.flatMap_cons]
                simp [List.append_assoc]
              have hln : l.length + (joinW [textD ⟨kd, n, v, wt, lc⟩]).length ≤ 100000000 := by
                have h := HLN.out
                rw [HNY.out, List.length_append, List.length_append] at h
                unfold opL wlD at h
                rw [List.length_append] at h
                omega
              have HBL : Hid (Bldr b l W2) := hbl
              have KQ : Kept W2 (W2.alloc (.cells #[.int .i64 kd, .int .i64 n, .int .i64 v, .int .i64 wt, .slice oa lc.length oc] 37)) := (Kept.refl W2).alloc _
              have hot := optext_any kd n v wt oa lc.length oc lc (W2.alloc (.cells #[.int .i64 kd, .int .i64 n, .int .i64 v, .int .i64 wt, .slice oa lc.length oc] 37)) (HR.out.kept (KWW.trans KQ)) (hca.kept (KWW.trans KQ)) hlc hcd hin64
              obtain ⟨tx, htx⟩ : ∃ t, textD ⟨kd, n, v, wt, lc⟩ = t := ⟨_, rfl⟩
              have HOL : Hid (opL ⟨kd, n, v, wt, lc⟩ = wlD [tx]) := by show _ = _; rw [← htx]; rfl
              rw [htx] at hot hln
              clear y0 y1 y2 y3 y4 hoj hom hcd hin64 hca hdo hbl htl HX2 htx
              go_wp2_with fail
              refine hot.mono ?_
              rintro e x5 ⟨rfl, T5⟩
              have K5 : Kept W2 x5 := KQ.trans T5
              have hwl := wline_lit b 1 [tx] #[.string (B tx)] rfl rfl l x5 (bld_kept HBL.out K5) (by rw [← hB2]; exact (KW2.trans K5).size) (by simp) hln
              clear hot
              go_wp2_with fail
              refine hwl.mono ?_
              rintro e x6 ⟨rfl, b6, T6⟩
              have K6 := kept_b (KW2.trans K5) T6.low hB2
              rw [← HOL.out] at b6
              clear hwl
              go_wp2_with fail
              go_roundg gi
              case rel => exact ⟨k + 1, _, rfl, by go_num, by omega, ⟨_, b6, HNY.out⟩, K6⟩
              case measure => omega
            · have b5 : ¬ (k : Int) < (pr.length : Int) := by omega
              have HX9 : Hid (∃ l, Bldr b l W2 ∧ textS L cs ts = l ++ (ts.drop (j + 1)).flatMap taskL) := by
                obtain ⟨l, h1, h2⟩ := HX2.out
                refine ⟨l, h1, ?_⟩
                rw [h2, List.drop_eq_nil_of_le (show pr.length ≤ k by omega)]
                rfl
              go_wp2_with fail
              go_roundg gm
              case rel => exact ⟨j + 1, _, rfl, by go_num, by omega, HX9, KW2⟩
              case measure => omega
        · have b3 : ¬ (j : Int) < (ts.length : Int) := by omega
          obtain ⟨l, hbl, htl⟩ := HX.out
          rw [List.drop_eq_nil_of_le (show ts.length ≤ j by omega), List.flatMap_nil, List.append_nil] at htl
          subst htl
          have hte := bld_tell b (textS L cs ts) W hbl (by rw [← hB2]; exact K.size)
          go_wp2_with fail
          refine hte.mono ?_
          rintro e w9 ⟨rfl, T9⟩
          have K9 := kept_b K T9 hB2
          clear hte
          go_wp2_with fail
          go_ret2
          exact ⟨rfl, K2.trans K9⟩
end Go.Proofs.YtolljdomnohmdabGreatDoor
namespace Go.Proofs.YtolljdomnohmdabGreatDoor
open Go.RowKit Go.Shelf

def knL1 : List UInt8 := [108, 111, 99, 107, 115, 32, 48, 10, 99, 104, 97, 110, 32, 49, 32, 45, 10, 116, 97, 115, 107, 32, 97, 32, 53, 32, 53, 32, 53, 10, 114, 117, 110, 32, 49, 10, 99, 104, 97, 110, 32, 49, 32, 45, 10]
def knL2 : List UInt8 := [108, 111, 99, 107, 115, 32, 48, 10, 114, 117, 110, 32, 49, 10]
def knL4 : List UInt8 := [108, 111, 99, 107, 115, 32, 48, 10, 116, 97, 115, 107, 32, 97, 32, 53, 32, 54, 32, 53, 10, 114, 117, 110, 32, 49, 10]
def knT : List UInt8 := [108, 111, 99, 107, 115, 32, 49, 10, 116, 97, 115, 107, 32, 102, 97, 115, 116, 32, 49, 48, 32, 56, 32, 51, 10, 114, 117, 110, 32, 49, 10, 108, 111, 99, 107, 32, 48, 10, 114, 117, 110, 32, 49, 10, 117, 110, 108, 111, 99, 107, 32, 48, 10, 116, 97, 115, 107, 32, 115, 108, 111, 119, 32, 50, 48, 32, 50, 48, 32, 54, 10, 108, 111, 99, 107, 32, 48, 10, 114, 117, 110, 32, 52, 10, 117, 110, 108, 111, 99, 107, 32, 48, 10, 114, 117, 110, 32, 49, 10]
theorem kn_t : textS 1 [] [twA, twBB] = knT := by decide +kernel
theorem kn_p1 : (parseS knL1).2 = (4, 2) := by decide +kernel
theorem kn_p2 : (parseS knL2).2 = (1, 2) := by decide +kernel
theorem kn_p3 : (parseS []).2 = (0, 2) := by decide +kernel
theorem kn_p4 : (parseS knL4).2 = (0, 1) := by decide +kernel
theorem kn_b1 : ∀ x ∈ linesOf knL1, x.length ≤ 1000 := by decide +kernel
theorem kn_b2 : ∀ x ∈ linesOf knL2, x.length ≤ 1000 := by decide +kernel
theorem kn_b3 : ∀ x ∈ linesOf [], x.length ≤ 1000 := by decide +kernel
theorem kn_b4 : ∀ x ∈ linesOf knL4, x.length ≤ 1000 := by decide +kernel
theorem kn_bt : ∀ x ∈ linesOf knT, x.length ≤ 1000 := by decide +kernel
theorem kn_in : ∀ t ∈ [twA, twBB], ∀ o ∈ t.prog, In64 o := by
  have h : ∀ t ∈ [twA, twBB], ∀ o ∈ t.prog, (-1000 ≤ o.kind ∧ o.kind ≤ 1000) ∧ (-1000 ≤ o.n ∧ o.n ≤ 1000) ∧ (-1000 ≤ o.v ∧ o.v ≤ 1000) ∧ (-1000 ≤ o.wait ∧ o.wait ≤ 1000) ∧ o.cases = [] := by decide +kernel
  intro t ht o ho
  obtain ⟨h1, h2, h3, h4, h5⟩ := h t ht o ho
  exact ⟨in64_of h1.1 h1.2, in64_of h2.1 h2.2, in64_of h3.1 h3.2, in64_of h4.1 h4.2, by rw [h5]; intro c hc; cases hc⟩
theorem kn_pt : parseS knT = (⟨1, true, [], [twA, twBB]⟩, 0, 0) := by
  rw [← kn_t]
  exact parse_textS (by rw [tw_c0]) kn_in
theorem kn_same : sameS 1 [] [twA, twBB] 1 [] [twA, twBB] = true := by decide +kernel
set_option maxHeartbeats 8000000 in
set_option maxRecDepth 20000 in
theorem tknown_any (w : World) (hr : Rdy w) : Calls Tryz.prog 4 #[] w fun e w' => e = .returned (.bool true) ∧ Kept w w' := by
  have HR : Hid (Rdy w) := hr
  have htw := two_ex w
  clear hr
  go_enter Tryz.func4, Tryz.ntmps4
  go_wp2_with fail
  refine htw.mono ?_
  rintro e w1 ⟨g, a, b, rfl, K1, T1⟩
  have HTw : Hid (TwoS w.heap.size w1 g a b) := T1
  have hpr := print_any 1 none (some ⟨g, 0, none⟩) 0 2 [] [twA, twBB] w1 (HR.out.kept K1) (AtH.nil _ _) T1.tasks tw_ok0 (by decide) (by decide) kn_in
  rw [tw_c0, if_pos rfl, kn_t] at hpr
  clear htw T1
  go_wp2_with fail
  refine hpr.mono ?_
  rintro e w2 ⟨rfl, K2⟩
  have K02 := K1.trans K2
  have hpa := tparse_any knT (by decide) (by decide) kn_bt w2 (HR.out.kept K02)
  rw [kn_pt] at hpa
  clear hpr
  go_wp2_with fail
  refine hpa.mono ?_
  rintro e w3 ⟨ha, hc, ta, tc, rfl, hH3, hT3, K3⟩
  have K03 := K02.trans K3
  have HX3 : Hid (AtH w3 ha [] ∧ AtT w3 ta [twA, twBB]) := ⟨hH3, hT3⟩
  have BX3 : Box w.heap.size (w3.alloc (.cells #[.int .i64 1, .slice ha 0 hc, .slice ta 2 tc] 27)) 27 w3.heap.size [.int .i64 1, .slice ha 0 hc, .slice ta 2 tc] := box_new w.heap.size w3 27 [.int .i64 1, .slice ha 0 hc, .slice ta 2 tc] K03.size (by simp)
  have hp1 := fun wx (kx : Kept w wx) => tparse_any knL1 (by decide) (by decide) kn_b1 wx (HR.out.kept kx)
  obtain ⟨⟨r1L, r1b, r1c, r1t⟩, hr1⟩ : ∃ r, (parseS knL1).1 = r := ⟨_, rfl⟩
  simp only [kn_p1, hr1] at hp1
  rw [show B knL1 = ⟨#[108, 111, 99, 107, 115, 32, 48, 10, 99, 104, 97, 110, 32, 49, 32, 45, 10, 116, 97, 115, 107, 32, 97, 32, 53, 32, 53, 32, 53, 10, 114, 117, 110, 32, 49, 10, 99, 104, 97, 110, 32, 49, 32, 45, 10]⟩ from rfl] at hp1
  clear hpa hr1
  go_wp2_with fail
  refine (hp1 _ (by first | exact K03.alloc _ | exact K03)).mono ?_
  rintro e w4 ⟨ha4, hc4, ta4, tc4, rfl, _, _, K4⟩
  have K04 := (K03.alloc _).trans K4
  have BX4 := BX3.kept K4
  have HX4 : Hid (AtH w4 ha [] ∧ AtT w4 ta [twA, twBB]) := ⟨(hH3.kept ((Kept.refl w3).alloc _)).kept K4, (hT3.kept ((Kept.refl w3).alloc _)).kept K4⟩
  have hp2 := fun wx (kx : Kept w wx) => tparse_any knL2 (by decide) (by decide) kn_b2 wx (HR.out.kept kx)
  obtain ⟨⟨r2L, r2b, r2c, r2t⟩, hr2⟩ : ∃ r, (parseS knL2).1 = r := ⟨_, rfl⟩
  simp only [kn_p2, hr2] at hp2
  rw [show B knL2 = ⟨#[108, 111, 99, 107, 115, 32, 48, 10, 114, 117, 110, 32, 49, 10]⟩ from rfl] at hp2
  clear hp1 hr2
  go_wp2_with fail
  refine (hp2 _ (by first | exact K04.alloc _ | exact K04)).mono ?_
  rintro e w5 ⟨ha5, hc5, ta5, tc5, rfl, _, _, K5⟩
  have K05 := (K04.alloc _).trans K5
  have BX5 := (BX4.kept ((Kept.refl w4).alloc _)).kept K5
  have HX5 : Hid (AtH w5 ha [] ∧ AtT w5 ta [twA, twBB]) := ⟨(HX4.out.1.kept ((Kept.refl w4).alloc _)).kept K5, (HX4.out.2.kept ((Kept.refl w4).alloc _)).kept K5⟩
  have hp3 := fun wx (kx : Kept w wx) => tparse_any [] (by decide) (by decide) kn_b3 wx (HR.out.kept kx)
  obtain ⟨⟨r3L, r3b, r3c, r3t⟩, hr3⟩ : ∃ r, (parseS []).1 = r := ⟨_, rfl⟩
  simp only [kn_p3, hr3] at hp3
  rw [show B [] = ⟨#[]⟩ from rfl] at hp3
  clear hp2 hr3
  go_wp2_with fail
  refine (hp3 _ (by first | exact K05.alloc _ | exact K05)).mono ?_
  rintro e w6 ⟨ha6, hc6, ta6, tc6, rfl, _, _, K6⟩
  have K06 := (K05.alloc _).trans K6
  have BX6 := (BX5.kept ((Kept.refl w5).alloc _)).kept K6
  have HX6 : Hid (AtH w6 ha [] ∧ AtT w6 ta [twA, twBB]) := ⟨(HX5.out.1.kept ((Kept.refl w5).alloc _)).kept K6, (HX5.out.2.kept ((Kept.refl w5).alloc _)).kept K6⟩
  have hp4 := fun wx (kx : Kept w wx) => tparse_any knL4 (by decide) (by decide) kn_b4 wx (HR.out.kept kx)
  obtain ⟨⟨r4L, r4b, r4c, r4t⟩, hr4⟩ : ∃ r, (parseS knL4).1 = r := ⟨_, rfl⟩
  simp only [kn_p4, hr4] at hp4
  rw [show B knL4 = ⟨#[108, 111, 99, 107, 115, 32, 48, 10, 116, 97, 115, 107, 32, 97, 32, 53, 32, 54, 32, 53, 10, 114, 117, 110, 32, 49, 10]⟩ from rfl] at hp4
  clear hp3 hr4
  go_wp2_with fail
  refine (hp4 _ (by first | exact K06.alloc _ | exact K06)).mono ?_
  rintro e w7 ⟨ha7, hc7, ta7, tc7, rfl, _, _, K7⟩
  have K07 := (K06.alloc _).trans K7
  have BX7 := (BX6.kept ((Kept.refl w6).alloc _)).kept K7
  have HX7 : Hid (AtH w7 ha [] ∧ AtT w7 ta [twA, twBB]) := ⟨(HX6.out.1.kept ((Kept.refl w6).alloc _)).kept K7, (HX6.out.2.kept ((Kept.refl w6).alloc _)).kept K7⟩
  clear hp4
  have e0 : ((B knT).toList == [108, 111, 99, 107, 115, 32, 49, 10, 116, 97, 115, 107, 32, 102, 97, 115, 116, 32, 49, 48, 32, 56, 32, 51, 10, 114, 117, 110, 32, 49, 10, 108, 111, 99, 107, 32, 48, 10, 114, 117, 110, 32, 49, 10, 117, 110, 108, 111, 99, 107, 32, 48, 10, 116, 97, 115, 107, 32, 115, 108, 111, 119, 32, 50, 48, 32, 50, 48, 32, 54, 10, 108, 111, 99, 107, 32, 48, 10, 114, 117, 110, 32, 52, 10, 117, 110, 108, 111, 99, 107, 32, 48, 10, 114, 117, 110, 32, 49, 10]) = true := by rw [B_is]; decide +kernel
  have HX8 : Hid (AtH (w7.alloc (.cells #[.int .i64 r4L, .slice ha7 r4c.length hc7, .slice ta7 r4t.length tc7] 27)) ha [] ∧ AtT (w7.alloc (.cells #[.int .i64 r4L, .slice ha7 r4c.length hc7, .slice ta7 r4t.length tc7] 27)) ta [twA, twBB]) := ⟨HX7.out.1.kept ((Kept.refl w7).alloc _), HX7.out.2.kept ((Kept.refl w7).alloc _)⟩
  have BX8 : Box w.heap.size (w7.alloc (.cells #[.int .i64 r4L, .slice ha7 r4c.length hc7, .slice ta7 r4t.length tc7] 27)) 27 w3.heap.size [.int .i64 1, .slice ha 0 hc, .slice ta 2 tc] := BX7.kept ((Kept.refl w7).alloc _)
  have K08 : Kept w (w7.alloc (.cells #[.int .i64 r4L, .slice ha7 r4c.length hc7, .slice ta7 r4t.length tc7] 27)) := K07.alloc _
  have z0 : (w7.alloc (.cells #[.int .i64 r4L, .slice ha7 r4c.length hc7, .slice ta7 r4t.length tc7] 27)).cell? ⟨w3.heap.size, 0, none⟩ = some (.int .i64 1) := BX8.cell 0 (by simp)
  have z1 : (w7.alloc (.cells #[.int .i64 r4L, .slice ha7 r4c.length hc7, .slice ta7 r4t.length tc7] 27)).cell? ⟨w3.heap.size, 1, none⟩ = some (.slice ha 0 hc) := BX8.cell 1 (by simp)
  have z2 : (w7.alloc (.cells #[.int .i64 r4L, .slice ha7 r4c.length hc7, .slice ta7 r4t.length tc7] 27)).cell? ⟨w3.heap.size, 2, none⟩ = some (.slice ta 2 tc) := BX8.cell 2 (by simp)
  clear BX3 BX4 BX5 BX6 BX7 BX8 HX3 HX4 HX5 HX6 HX7 HTw
  go_wp2_with fail
  refine (OfS.sof_any 1 ha ta hc tc [] [twA, twBB] _ HX8.out.1 HX8.out.2 tw_ok0 (by decide) (by decide)).mono ?_
  rintro e w8 ⟨ca8, cc8, ta8, tc8, rfl, hH8, hT8, _, K8⟩
  have K09 := K08.trans K8
  have HX9 : Hid (AtH w8 ca8 [] ∧ AtT w8 ta8 [twA, twBB]) := ⟨hH8, hT8⟩
  clear z0 z1 z2 HX8 hH8 hT8 hH3 hT3
  go_wp2_with fail
  refine (two_ex w8).mono ?_
  rintro e w9 ⟨g9, a9, b9, rfl, K10, T9⟩
  have HT9 : Hid (TwoS w8.heap.size w9 g9 a9 b9) := T9
  clear T9
  go_wp2_with fail
  refine (OfS.sof_any 1 none (some ⟨g9, 0, none⟩) 0 2 [] [twA, twBB] _ (AtH.nil _ _) HT9.out.tasks tw_ok0 (by decide) (by decide)).mono ?_
  rintro e w10 ⟨ca10, cc10, ta10, tc10, rfl, hH10, hT10, _, K11⟩
  have hss := rsset_any 1 1 ca8 ca10 ta8 ta10 cc8 cc10 tc8 tc10 [] [] [twA, twBB] [twA, twBB] w10 ((HX9.out.1.kept K10).kept K11) hH10 ((HX9.out.2.kept K10).kept K11) hT10 (by decide) (by decide) tw_ok0
  rw [kn_same] at hss
  have K012 := (K09.trans K10).trans K11
  clear hH10 hT10
  go_wp2_with fail
  refine hss.mono ?_
  rintro e w11 ⟨rfl, K12⟩
  clear hss
  go_wp2_with fail
  go_ret
  exact ⟨rfl, K012.trans K12⟩
end Go.Proofs.YtolljdomnohmdabGreatDoor
