/- Of, of a set. -/
import Derived.ProofKit
import Derived.OpenShut
import Derived.ShutString
import Derived.ChangeOld
import Derived.ChangeArms
import Derived.WideShapes
import Derived.Below
import Derived.Deep.Slices
import Derived.Deep.SlicePairs
import Derived.Test.YtolljdomnohmdabGreatDoorM15
import Derived.Test.YtolljdomnohmdabGreatDoorM2
import Derived.Test.YtolljdomnohmdabGreatDoorCas
import Derived.Test.YtolljdomnohmdabGreatDoorCheck
import Derived.Test.YtolljdomnohmdabGreatDoorM3
import Derived.Test.YtolljdomnohmdabGreatDoorM4
import Derived.Test.YtolljdomnohmdabGreatDoorM0
import Derived.Test.YtolljdomnohmdabGreatDoorM1
import Derived.Test.YtolljdomnohmdabGreatDoorOpT
import Derived.Test.YtolljdomnohmdabGreatDoorPar
import Derived.Test.YtolljdomnohmdabGreatDoorM7
import Derived.Test.YtolljdomnohmdabGreatDoorTxt
import Derived.Test.YtolljdomnohmdabGreatDoorRWrd
import Derived.Test.YtolljdomnohmdabGreatDoorM5
import Derived.Test.YtolljdomnohmdabGreatDoorRead
import Derived.Test.YtolljdomnohmdabGreatDoorM8
import Derived.Test.YtolljdomnohmdabGreatDoorTrn
import Derived.Test.YtolljdomnohmdabGreatDoorM14
namespace Go.Proofs.YtolljdomnohmdabGreatDoor
open Go.RowKit

namespace OfS
set_option maxHeartbeats 8000000 in
set_option maxRecDepth 20000 in
theorem sof_any (L : Int) (ca ta : Option Addr) (cc tc : Nat) (cs : List ChanD) (ts : List TaskD) (w : World) (hH : AtH w ca cs) (hA : AtT w ta ts) (hok : TsOk ts) (hl : ts.length ≤ 1000) (hcl : cs.length ≤ 1000) :
    Calls Tryz.prog 11 #[.agg #[.int .i64 L, .slice ca cs.length cc, .slice ta ts.length tc]] w fun e w' => ∃ ca' cc' ta' tc', e = .returned (.agg #[.int .i64 L, .slice ca' cs.length cc', .slice ta' ts.length tc']) ∧ AtH w' ca' cs ∧ AtT w' ta' ts ∧ (∀ b f, ta' = some ⟨b, f, none⟩ → w.heap.size ≤ b ∧ f = 0) ∧ Kept w w' := by
  have HH : Hid (AtH w ca cs) := hH
  have HA : Hid (AtT w ta ts) := hA
  have HO : Hid (TsOk ts) := hok
  clear hH hA hok
  have K0 : Kept w (((w.alloc (.cells #[.int .i64 L, .slice ca cs.length cc, .slice ta ts.length tc] 27)).alloc (.cells #[.int .i64 0, .slice none 0 0, .slice none 0 0] 47)).alloc (.cells #[.int .i64 L, .slice none 0 0, .slice none 0 0] 47)) := (((Kept.refl w).alloc _).alloc _).alloc _
  have HB : Hid (Box w.heap.size (((w.alloc (.cells #[.int .i64 L, .slice ca cs.length cc, .slice ta ts.length tc] 27)).alloc (.cells #[.int .i64 0, .slice none 0 0, .slice none 0 0] 47)).alloc (.cells #[.int .i64 L, .slice none 0 0, .slice none 0 0] 47)) 27 w.heap.size [.int .i64 L, .slice ca cs.length cc, .slice ta ts.length tc]) := (box_new w.heap.size w 27 [.int .i64 L, .slice ca cs.length cc, .slice ta ts.length tc] (Nat.le_refl _) (by simp)).kept (((Kept.refl _).alloc _).alloc _)
  have HR : Hid (Box w.heap.size (((w.alloc (.cells #[.int .i64 L, .slice ca cs.length cc, .slice ta ts.length tc] 27)).alloc (.cells #[.int .i64 0, .slice none 0 0, .slice none 0 0] 47)).alloc (.cells #[.int .i64 L, .slice none 0 0, .slice none 0 0] 47)) 47 (w.heap.size + 1) [.int .i64 0, .slice none 0 0, .slice none 0 0]) := by
    have h := box_new w.heap.size (w.alloc (.cells #[.int .i64 L, .slice ca cs.length cc, .slice ta ts.length tc] 27)) 47 [.int .i64 0, .slice none 0 0, .slice none 0 0] (by simp) (by simp)
    rw [show (w.alloc (.cells #[.int .i64 L, .slice ca cs.length cc, .slice ta ts.length tc] 27)).heap.size = w.heap.size + 1 by simp] at h
    exact h.kept ((Kept.refl _).alloc _)
  have HX : Hid (Box w.heap.size (((w.alloc (.cells #[.int .i64 L, .slice ca cs.length cc, .slice ta ts.length tc] 27)).alloc (.cells #[.int .i64 0, .slice none 0 0, .slice none 0 0] 47)).alloc (.cells #[.int .i64 L, .slice none 0 0, .slice none 0 0] 47)) 47 (w.heap.size + 1 + 1) [.int .i64 L, .slice none 0 0, .slice none 0 0]) := by
    have h := box_new w.heap.size ((w.alloc (.cells #[.int .i64 L, .slice ca cs.length cc, .slice ta ts.length tc] 27)).alloc (.cells #[.int .i64 0, .slice none 0 0, .slice none 0 0] 47)) 47 [.int .i64 L, .slice none 0 0, .slice none 0 0] (by simp; omega) (by simp)
    rw [show ((w.alloc (.cells #[.int .i64 L, .slice ca cs.length cc, .slice ta ts.length tc] 27)).alloc (.cells #[.int .i64 0, .slice none 0 0, .slice none 0 0] 47)).heap.size = w.heap.size + 1 + 1 by simp] at h
    exact h
  have HW3 : Hid ((((w.alloc (.cells #[.int .i64 L, .slice ca cs.length cc, .slice ta ts.length tc] 27)).alloc (.cells #[.int .i64 0, .slice none 0 0, .slice none 0 0] 47)).alloc (.cells #[.int .i64 L, .slice none 0 0, .slice none 0 0] 47)).heap.size = w.heap.size + 3) := by show _ = _; simp
  go_enter Tryz.func11, Tryz.ntmps11
  go_wp2_with fail
  generalize (((w.alloc (.cells #[.int .i64 L, .slice ca cs.length cc, .slice ta ts.length tc] 27)).alloc (.cells #[.int .i64 0, .slice none 0 0, .slice none 0 0] 47)).alloc (.cells #[.int .i64 L, .slice none 0 0, .slice none 0 0] 47)) = W3 at *
  go_loopg [4] cs.length (fun gk i wr => ∃ (j : Nat) (v : Value) (W : World), W = wr ∧ i = .int .i64 j ∧ j + gk = cs.length ∧ Hid (Box w.heap.size W 27 w.heap.size [.int .i64 L, .slice ca cs.length cc, .slice ta ts.length tc]) ∧ Hid (Box w.heap.size W 47 (w.heap.size + 1) [.int .i64 0, .slice none 0 0, .slice none 0 0]) ∧ Hid (Box w.heap.size W 47 (w.heap.size + 1 + 1) [.int .i64 L, v, .slice none 0 0]) ∧ Hid (HRow w.heap.size W v (cs.take j)) ∧ Hid (∀ q, v.ownBlock = some q → w.heap.size + 2 < q) ∧ Hid (w.heap.size + 3 ≤ W.heap.size) ∧ Kept w W)
  case atStart => exact ⟨0, _, _, rfl, rfl, by omega, HB, HR, HX, World.ownsRow_nil _ _ _ _, (fun q hq => by simp [Value.ownBlock] at hq), (by show _ ≤ _; rw [HW3.out]; exact Nat.le_refl _), K0⟩
  case round =>
    obtain ⟨j, v, W, hW, rfl, hj, HBr, HRr, HXr, HC, HN, HS, K⟩ := hrel
    subst hW
    have s1 : W.cell? ⟨w.heap.size, 1, none⟩ = some (.slice ca cs.length cc) := HBr.out.cell 1 (by simp)
    by_cases hjp : j < cs.length
    · obtain ⟨b, f, r, s, rfl, hpj, g0, g1, hdr⟩ := (HH.out.kept K).get j hjp
      have b1 : (j : Int) < (cs.length : Int) := by omega
      have b2 : (0 : Int) ≤ (j : Int) := by omega
      have HTK : Hid (cs.take (j + 1) = cs.take j ++ [⟨r, s⟩]) := by show _ = _; rw [List.take_add_one, hpj]; rfl
      obtain ⟨gi, rfl⟩ : ∃ g, gk = g + 1 := ⟨gk - 1, by omega⟩
      have hlen : (cs.take j).length ≤ 1000000 := by rw [List.length_take]; omega
      clear hpj hdr
      go_wp2_with fail
      have BB0 : Box w.heap.size W.drew 27 w.heap.size [.int .i64 L, .slice (some ⟨b, f, none⟩) cs.length cc, .slice ta ts.length tc] := HBr.out.kept ((Kept.refl W).drew)
      have BR0 : Box w.heap.size W.drew 47 (w.heap.size + 1) [.int .i64 0, .slice none 0 0, .slice none 0 0] := HRr.out.kept ((Kept.refl W).drew)
      have BX0 : Box w.heap.size W.drew 47 (w.heap.size + 1 + 1) [.int .i64 L, v, .slice none 0 0] := HXr.out.kept ((Kept.refl W).drew)
      have HC0 : HRow w.heap.size W.drew v (cs.take j) := HC.out.kept ((Kept.refl W).drew)
      have KW0 : Kept w W.drew := K.drew
      have c0 : W.drew.cell? ⟨b, f + j * 2, none⟩ = some (.int .i64 r) := g0
      have c1 : W.drew.cell? ⟨b, f + j * 2 + 1, none⟩ = some (.int .i64 s) := g1
      have z0 : w.heap.size + 3 ≤ W.drew.heap.size := HS.out
      have hbw : b < w.heap.size := by
        obtain ⟨b', f', e, h, _⟩ := HH.out j _ (List.getElem?_eq_getElem hjp)
        cases e
        exact cell_lt h
      clear HBr HRr HXr HC g0 g1 s1 K HS
      refine wp_region_S (by kernel_rfl) 18 (fun w' => w'.cell? ⟨(w.heap.size + 1 + 1), 1, none⟩ = some v ∧ w'.cell? ⟨w.heap.size, 1, none⟩ = some (.slice (some ⟨b, f, none⟩) cs.length cc) ∧ w'.cell? ⟨b, f + j * 2, none⟩ = some (.int .i64 r) ∧ w'.cell? ⟨b, f + j * 2 + 1, none⟩ = some (.int .i64 s)) ?_
      generalize W.drew = W0 at *
      have hS0 : W0.cell? ⟨(w.heap.size + 1 + 1), 1, none⟩ = some v ∧ W0.cell? ⟨w.heap.size, 1, none⟩ = some (.slice (some ⟨b, f, none⟩) cs.length cc) ∧ W0.cell? ⟨b, f + j * 2, none⟩ = some (.int .i64 r) ∧ W0.cell? ⟨b, f + j * 2 + 1, none⟩ = some (.int .i64 s) := ⟨BX0.cell 1 (by simp), BB0.cell 1 (by simp), c0, c1⟩
      refine wpAnyS_take (i := 0) (v := .pointer (some ⟨(w.heap.size + 1 + 1), 1, none⟩)) rfl (by kernel_rfl) (by kernel_rfl) (by kernel_rfl) (by kernel_rfl) (fun _ _ _ h => h) hS0 rfl (fun wx hx => by obtain ⟨s1, s2, s3, s4⟩ := hx; go_simp) ?_
      refine wpAnyS_take (i := 1) (v := v) rfl (by kernel_rfl) (by kernel_rfl) (by kernel_rfl) (by kernel_rfl) (fun _ _ _ h => h) hS0 rfl (fun wx hx => by obtain ⟨s1, s2, s3, s4⟩ := hx; go_simp) ?_
      refine wpAnyS_take (i := 2) (v := .pointer (some ⟨w.heap.size, 1, none⟩)) rfl (by kernel_rfl) (by kernel_rfl) (by kernel_rfl) (by kernel_rfl) (fun _ _ _ h => h) hS0 rfl (fun wx hx => by obtain ⟨s1, s2, s3, s4⟩ := hx; go_simp) ?_
      refine wpAnyS_take (i := 3) (v := (.slice (some ⟨b, f, none⟩) cs.length cc)) rfl (by kernel_rfl) (by kernel_rfl) (by kernel_rfl) (by kernel_rfl) (fun _ _ _ h => h) hS0 rfl (fun wx hx => by obtain ⟨s1, s2, s3, s4⟩ := hx; go_simp) ?_
      refine wpAnyS_take (i := 4) (v := .int .i64 (j : Int)) rfl (by kernel_rfl) (by kernel_rfl) (by kernel_rfl) (by kernel_rfl) (fun _ _ _ h => h) hS0 rfl (fun wx hx => by obtain ⟨s1, s2, s3, s4⟩ := hx; go_simp) ?_
      refine wpAnyS_take (i := 5) (v := .pointer (some ⟨b, f + j * 2, none⟩)) rfl (by kernel_rfl) (by kernel_rfl) (by kernel_rfl) (by kernel_rfl) (fun _ _ _ h => h) hS0 rfl (fun wx hx => by obtain ⟨s1, s2, s3, s4⟩ := hx; go_simp) ?_
      refine wpAnyS_take (i := 6) (v := .pointer (some ⟨b, f + j * 2, none⟩)) rfl (by kernel_rfl) (by kernel_rfl) (by kernel_rfl) (by kernel_rfl) (fun _ _ _ h => h) hS0 rfl (fun wx hx => by obtain ⟨s1, s2, s3, s4⟩ := hx; go_simp) ?_
      refine wpAnyS_take (i := 7) (v := .int .i64 r) rfl (by kernel_rfl) (by kernel_rfl) (by kernel_rfl) (by kernel_rfl) (fun _ _ _ h => h) hS0 rfl (fun wx hx => by obtain ⟨s1, s2, s3, s4⟩ := hx; go_simp) ?_
      refine wpAnyS_take (i := 8) (v := .pointer (some ⟨w.heap.size, 1, none⟩)) rfl (by kernel_rfl) (by kernel_rfl) (by kernel_rfl) (by kernel_rfl) (fun _ _ _ h => h) hS0 rfl (fun wx hx => by obtain ⟨s1, s2, s3, s4⟩ := hx; go_simp) ?_
      refine wpAnyS_take (i := 9) (v := (.slice (some ⟨b, f, none⟩) cs.length cc)) rfl (by kernel_rfl) (by kernel_rfl) (by kernel_rfl) (by kernel_rfl) (fun _ _ _ h => h) hS0 rfl (fun wx hx => by obtain ⟨s1, s2, s3, s4⟩ := hx; go_simp) ?_
      refine wpAnyS_take (i := 10) (v := .int .i64 (j : Int)) rfl (by kernel_rfl) (by kernel_rfl) (by kernel_rfl) (by kernel_rfl) (fun _ _ _ h => h) hS0 rfl (fun wx hx => by obtain ⟨s1, s2, s3, s4⟩ := hx; go_simp) ?_
      refine wpAnyS_take (i := 11) (v := .pointer (some ⟨b, f + j * 2, none⟩)) rfl (by kernel_rfl) (by kernel_rfl) (by kernel_rfl) (by kernel_rfl) (fun _ _ _ h => h) hS0 rfl (fun wx hx => by obtain ⟨s1, s2, s3, s4⟩ := hx; go_simp) ?_
      refine wpAnyS_take (i := 12) (v := .pointer (some ⟨b, f + j * 2 + 1, none⟩)) rfl (by kernel_rfl) (by kernel_rfl) (by kernel_rfl) (by kernel_rfl) (fun _ _ _ h => h) hS0 rfl (fun wx hx => by obtain ⟨s1, s2, s3, s4⟩ := hx; go_simp) ?_
      refine wpAnyS_take (i := 13) (v := .int .i64 s) rfl (by kernel_rfl) (by kernel_rfl) (by kernel_rfl) (by kernel_rfl) (fun _ _ _ h => h) hS0 rfl (fun wx hx => by obtain ⟨s1, s2, s3, s4⟩ := hx; go_simp) ?_
      refine wpAnyS_take (i := 14) (v := .agg #[.int .i64 r, .int .i64 s]) rfl (by kernel_rfl) (by kernel_rfl) (by kernel_rfl) (by kernel_rfl) (fun _ _ _ h => h) hS0 rfl (fun wx hx => by obtain ⟨s1, s2, s3, s4⟩ := hx; go_simp) ?_
      refine wpAnyS_one (i := 15) rfl (by kernel_rfl) (fun KX hK => ?_)
      go_simp
      have A1 := (Kept.refl W0).alloc (.cells #[.int .i64 r, .int .i64 s] 71)
      refine hK _ _ (fun _ => ⟨A1.cell hS0.1, A1.cell hS0.2.1, A1.cell hS0.2.2.1, A1.cell hS0.2.2.2⟩) ?_
      clear hK KX A1
      refine wpAnyS_one (i := 16) rfl (by kernel_rfl) (fun KX hK => ?_)
      refine step_append_chan _ (by rfl) _ _ (by rfl) w.heap.size v (cs.take j) ⟨r, s⟩ _ rfl W0 (by rfl) (by rfl) W0.heap.size (by rfl) (by rfl) HC0 hlen KW0.size ?_
      intro g5 c5 w5 R5 t5 hg5
      rw [← HTK.out] at R5
      generalize (cs.take j).length = mm at *
      have hnb : ∀ q, (Value.slice (some ⟨g5, 0, none⟩) (mm + 1) c5).ownBlock = some q → q = g5 := fun q hq => by simp [Value.ownBlock] at hq; exact hq.symm
      have B5 := BB0.turns t5 (fun e => by have := HN.out _ e; omega)
      have Q5 := BR0.turns t5 (fun e => by have := HN.out _ e; omega)
      have X5 := BX0.turns t5 (fun e => by have := HN.out _ e; omega)
      have K5 : Kept w w5 := t5.kept KW0 (fun i hi => by have := HN.out _ hi; omega)
      have e0 : w5.cell? ⟨b, f + j * 2, none⟩ = some (.int .i64 r) := t5.cell c0 (cell_lt c0) (fun e => by have h : w.heap.size + 2 < b := HN.out _ e; omega)
      have e1 : w5.cell? ⟨b, f + j * 2 + 1, none⟩ = some (.int .i64 s) := t5.cell c1 (cell_lt c1) (fun e => by have h : w.heap.size + 2 < b := HN.out _ e; omega)
      have x1 : w5.cell? ⟨(w.heap.size + 1 + 1), 1, none⟩ = some v := X5.cell 1 (by simp)
      have x2 : w5.frozen? ⟨(w.heap.size + 1 + 1), 1, none⟩ = false := X5.frozen 1
      have hS5 := And.intro x1 (And.intro (B5.cell 1 (by simp)) (And.intro e0 e1))
      have hgs : w.heap.size + 2 < g5 := by
        rcases hg5 with h | h
        · exact HN.out _ h
        · omega
      refine hK _ _ (fun _ => hS5) ?_
      clear hK KX
      refine wpAnyS_one (i := 17) rfl (by kernel_rfl) (fun KX hK => ?_)
      go_simp
      refine hK _ _ (fun _ => hS5) ?_
      clear hK KX
      refine wpAnyS_one (i := 18) rfl (by kernel_rfl) (fun KX hK => ?_)
      go_simp
      refine hK _ _ (fun h => absurd rfl h) ?_
      clear hK KX
      refine wpAnyS_done (by kernel_rfl) ?_ _
      have tf := turn_set w5 (w.heap.size + 1 + 1) 1 (.slice (some ⟨g5, 0, none⟩) (mm + 1) c5)
      have HB9 : Hid (Box w.heap.size (w5.setCell ⟨(w.heap.size + 1 + 1), 1, none⟩ (.slice (some ⟨g5, 0, none⟩) (mm + 1) c5)) 27 w.heap.size [.int .i64 L, .slice (some ⟨b, f, none⟩) cs.length cc, .slice ta ts.length tc]) := B5.turns tf (fun e => by omega)
      have HR9 : Hid (Box w.heap.size (w5.setCell ⟨(w.heap.size + 1 + 1), 1, none⟩ (.slice (some ⟨g5, 0, none⟩) (mm + 1) c5)) 47 (w.heap.size + 1) [.int .i64 0, .slice none 0 0, .slice none 0 0]) := Q5.turns tf (fun e => by omega)
      have HX9 : Hid (Box w.heap.size (w5.setCell ⟨(w.heap.size + 1 + 1), 1, none⟩ (.slice (some ⟨g5, 0, none⟩) (mm + 1) c5)) 47 (w.heap.size + 1 + 1) [.int .i64 L, (.slice (some ⟨g5, 0, none⟩) (mm + 1) c5), .slice none 0 0]) := X5.set 1 _
      have HC9 : Hid (HRow w.heap.size (w5.setCell ⟨(w.heap.size + 1 + 1), 1, none⟩ (.slice (some ⟨g5, 0, none⟩) (mm + 1) c5)) (.slice (some ⟨g5, 0, none⟩) (mm + 1) c5) (cs.take (j + 1))) := R5.turns tf (fun q hq e => by have := hnb q hq; omega)
      have HN9 : Hid (∀ q, (Value.slice (some ⟨g5, 0, none⟩) (mm + 1) c5).ownBlock = some q → w.heap.size + 2 < q) := fun q hq => by have := hnb q hq; omega
      have HS9 : Hid (w.heap.size + 3 ≤ (w5.setCell ⟨(w.heap.size + 1 + 1), 1, none⟩ (.slice (some ⟨g5, 0, none⟩) (mm + 1) c5)).heap.size) := Nat.le_trans z0 (Nat.le_trans t5.size tf.size)
      have HK9 : Hid (Kept w (w5.setCell ⟨(w.heap.size + 1 + 1), 1, none⟩ (.slice (some ⟨g5, 0, none⟩) (mm + 1) c5))) := tf.kept K5 (fun i hi => by omega)
      clear B5 Q5 X5 K5 e0 e1 x1 x2 hS5 hS0 R5 t5 hg5 BB0 BR0 BX0 HC0 KW0 c0 c1 z0 tf
      go_wp2_with fail
      go_roundg gi
      case rel => exact ⟨j + 1, _, _, rfl, by go_num, by omega, HB9, HR9, HX9, HC9, HN9, HS9, HK9.out⟩
      case measure => omega
    · have b1 : ¬ (j : Int) < (cs.length : Int) := by omega
      have HCC : Hid (HRow w.heap.size W v cs) := by have h := HC.out; rw [List.take_of_length_le (by omega)] at h; exact h
      have HNC : Hid (∀ q, v.ownBlock = some q → w.heap.size + 2 < q ∧ q < W.heap.size) := fun q hq => ⟨HN.out q hq, (World.ownsRow.lt HCC.out q hq).2⟩
      clear HC HN
      go_wp2_with fail
      go_loopg [5] ts.length (fun gk i wr => ∃ (j : Nat) (y : Value) (pvs : List Value) (W2 : World), W2 = wr ∧ i = .int .i64 j ∧ j + gk = ts.length ∧ Hid (Box w.heap.size W2 27 w.heap.size [.int .i64 L, .slice ca cs.length cc, .slice ta ts.length tc]) ∧ Hid (Box w.heap.size W2 47 (w.heap.size + 1) [.int .i64 0, .slice none 0 0, .slice none 0 0]) ∧ Hid (Box w.heap.size W2 47 (w.heap.size + 1 + 1) [.int .i64 L, v, y]) ∧ Hid (HRow w.heap.size W2 v cs) ∧ Hid (TRow w.heap.size (w.heap.size + 1 + 1) W2 y (ts.take j) pvs) ∧ Hid (∀ q, y.ownBlock = some q → w.heap.size + 2 < q ∧ v.ownBlock ≠ some q) ∧ Hid (w.heap.size + 3 ≤ W2.heap.size ∧ W.heap.size ≤ W2.heap.size) ∧ Kept w W2)
      case atStart => exact ⟨0, _, [], _, rfl, rfl, by omega, HBr, HRr, HXr, HCC, TRow.nil _ _ _, (fun q hq => by simp [Value.ownBlock] at hq), ⟨HS.out, Nat.le_refl _⟩, K⟩
      case round =>
        obtain ⟨j2, y, pvs, W2, hW, rfl, hj2, HB2, HR2, HX2, HC2, HT2, HY2, HS2, K2⟩ := hrel
        subst hW
        have s2 : W2.cell? ⟨w.heap.size, 2, none⟩ = some (.slice ta ts.length tc) := HB2.out.cell 2 (by simp)
        by_cases hjt : j2 < ts.length
        · obtain ⟨b, f, nm, pd, dl, bu, pr, pa, pc, rfl, hpj, g0, g1, g2, g3, g4, hpc, hat, hbl, hdr⟩ := (HA.out.kept K2).get j2 hjt
          have b3 : (j2 : Int) < (ts.length : Int) := by omega
          have b4 : (0 : Int) ≤ (j2 : Int) := by omega
          have HTK : Hid (ts.take (j2 + 1) = ts.take j2 ++ [⟨nm, pd, dl, bu, pr⟩]) := by show _ = _; rw [List.take_add_one, hpj]; rfl
          obtain ⟨ho1, ho2, ho3⟩ := HO.out _ (List.mem_of_getElem? hpj)
          simp only at ho1 ho2 ho3
          obtain ⟨gi, rfl⟩ : ∃ g, gk = g + 1 := ⟨gk - 1, by omega⟩
          have hlen : (ts.take j2).length ≤ 1000000 := by rw [List.length_take]; omega
          have KA := (Kept.refl W2).alloc (.cells #[.string (B nm), .int .i64 pd, .int .i64 dl, .int .i64 bu, .slice pa pr.length pc] 33)
          have HB3 : Hid (Box w.heap.size (W2.alloc (.cells #[.string (B nm), .int .i64 pd, .int .i64 dl, .int .i64 bu, .slice pa pr.length pc] 33)) 27 w.heap.size [.int .i64 L, .slice ca cs.length cc, .slice (some ⟨b, f, none⟩) ts.length tc]) := HB2.out.kept KA
          have HR3 : Hid (Box w.heap.size (W2.alloc (.cells #[.string (B nm), .int .i64 pd, .int .i64 dl, .int .i64 bu, .slice pa pr.length pc] 33)) 47 (w.heap.size + 1) [.int .i64 0, .slice none 0 0, .slice none 0 0]) := HR2.out.kept KA
          have HX3 : Hid (Box w.heap.size (W2.alloc (.cells #[.string (B nm), .int .i64 pd, .int .i64 dl, .int .i64 bu, .slice pa pr.length pc] 33)) 47 (w.heap.size + 1 + 1) [.int .i64 L, v, y]) := HX2.out.kept KA
          have HC3 : Hid (HRow w.heap.size (W2.alloc (.cells #[.string (B nm), .int .i64 pd, .int .i64 dl, .int .i64 bu, .slice pa pr.length pc] 33)) v cs) := HC2.out.kept KA
          have HT3 : Hid (TRow w.heap.size (w.heap.size + 1 + 1) (W2.alloc (.cells #[.string (B nm), .int .i64 pd, .int .i64 dl, .int .i64 bu, .slice pa pr.length pc] 33)) y (ts.take j2) pvs) := HT2.out.kept KA
          have HP3 : Hid (AtP (W2.alloc (.cells #[.string (B nm), .int .i64 pd, .int .i64 dl, .int .i64 bu, .slice pa pr.length pc] 33)) pa pr) := hat.kept KA
          have HD3 : Hid (Box w.heap.size (W2.alloc (.cells #[.string (B nm), .int .i64 pd, .int .i64 dl, .int .i64 bu, .slice pa pr.length pc] 33)) 33 W2.heap.size [.string (B nm), .int .i64 pd, .int .i64 dl, .int .i64 bu, .slice pa pr.length pc]) := box_new w.heap.size W2 33 [.string (B nm), .int .i64 pd, .int .i64 dl, .int .i64 bu, .slice pa pr.length pc] K2.size (by simp)
          have HK3 : Hid (Kept w (W2.alloc (.cells #[.string (B nm), .int .i64 pd, .int .i64 dl, .int .i64 bu, .slice pa pr.length pc] 33))) := K2.trans KA
          have HS3 : Hid (w.heap.size + 3 ≤ W2.heap.size ∧ W.heap.size ≤ W2.heap.size ∧ W2.heap.size < (W2.alloc (.cells #[.string (B nm), .int .i64 pd, .int .i64 dl, .int .i64 bu, .slice pa pr.length pc] 33)).heap.size) := ⟨HS2.out.1, HS2.out.2, by simp⟩
          have HYW : Hid (∀ q, y.ownBlock = some q → q < W2.heap.size) := fun q hq => (World.ownsRow.lt HT2.out.row q hq).2
          clear hpj hdr hat HB2 HR2 HX2 HC2 HT2 HS2 K2 KA
          go_wp2_with fail
          clear g0 g1 g2 g3 g4 s2
          obtain ⟨tb, htb⟩ : ∃ tb, W2.heap.size = tb := ⟨_, rfl⟩
          have BB0 := HB3.out.kept ((Kept.refl _).drew)
          have BR0 := HR3.out.kept ((Kept.refl _).drew)
          have BX0 := HX3.out.kept ((Kept.refl _).drew)
          have HC0 := HC3.out.kept ((Kept.refl _).drew)
          have HT0 := HT3.out.kept ((Kept.refl _).drew)
          have HP0 := HP3.out.kept ((Kept.refl _).drew)
          have HD0 := HD3.out.kept ((Kept.refl _).drew)
          have KW0 := HK3.out.drew
          have z0 : w.heap.size + 3 ≤ W2.heap.size ∧ W.heap.size ≤ W2.heap.size ∧ W2.heap.size < (W2.alloc (.cells #[.string (B nm), .int .i64 pd, .int .i64 dl, .int .i64 bu, .slice pa pr.length pc] 33)).drew.heap.size := HS3.out
          clear HB3 HR3 HX3 HC3 HT3 HP3 HD3 HK3 HS3
          refine wp_region_S (by kernel_rfl) 17 (fun w' => w'.cell? ⟨(w.heap.size + 1 + 1), 2, none⟩ = some y ∧ w'.cell? ⟨tb, 0, none⟩ = some (.string (B nm)) ∧ w'.cell? ⟨tb, 1, none⟩ = some (.int .i64 pd) ∧ w'.cell? ⟨tb, 2, none⟩ = some (.int .i64 dl) ∧ w'.cell? ⟨tb, 3, none⟩ = some (.int .i64 bu) ∧ w'.cell? ⟨tb, 4, none⟩ = some (.slice pa pr.length pc)) ?_
          generalize (W2.alloc (.cells #[.string (B nm), .int .i64 pd, .int .i64 dl, .int .i64 bu, .slice pa pr.length pc] 33)).drew = W0 at *
          have HYT := HYW.out
          rw [htb] at *
          have hS0 : W0.cell? ⟨(w.heap.size + 1 + 1), 2, none⟩ = some y ∧ W0.cell? ⟨tb, 0, none⟩ = some (.string (B nm)) ∧ W0.cell? ⟨tb, 1, none⟩ = some (.int .i64 pd) ∧ W0.cell? ⟨tb, 2, none⟩ = some (.int .i64 dl) ∧ W0.cell? ⟨tb, 3, none⟩ = some (.int .i64 bu) ∧ W0.cell? ⟨tb, 4, none⟩ = some (.slice pa pr.length pc) := ⟨BX0.cell 2 (by simp), HD0.cell 0 (by simp), HD0.cell 1 (by simp), HD0.cell 2 (by simp), HD0.cell 3 (by simp), HD0.cell 4 (by simp)⟩
          refine wpAnyS_take (i := 0) (v := .pointer (some ⟨(w.heap.size + 1 + 1), 2, none⟩)) rfl (by kernel_rfl) (by kernel_rfl) (by kernel_rfl) (by kernel_rfl) (fun _ _ _ h => h) hS0 rfl (fun wx hx => by obtain ⟨s1, s2, s3, s4, s5, s6⟩ := hx; go_simp) ?_
          refine wpAnyS_take (i := 1) (v := y) rfl (by kernel_rfl) (by kernel_rfl) (by kernel_rfl) (by kernel_rfl) (fun _ _ _ h => h) hS0 rfl (fun wx hx => by obtain ⟨s1, s2, s3, s4, s5, s6⟩ := hx; go_simp) ?_
          refine wpAnyS_take (i := 2) (v := .pointer (some ⟨tb, 0, none⟩)) rfl (by kernel_rfl) (by kernel_rfl) (by kernel_rfl) (by kernel_rfl) (fun _ _ _ h => h) hS0 rfl (fun wx hx => by obtain ⟨s1, s2, s3, s4, s5, s6⟩ := hx; go_simp) ?_
          refine wpAnyS_take (i := 3) (v := .string (B nm)) rfl (by kernel_rfl) (by kernel_rfl) (by kernel_rfl) (by kernel_rfl) (fun _ _ _ h => h) hS0 rfl (fun wx hx => by obtain ⟨s1, s2, s3, s4, s5, s6⟩ := hx; go_simp) ?_
          refine wpAnyS_take (i := 4) (v := .pointer (some ⟨tb, 1, none⟩)) rfl (by kernel_rfl) (by kernel_rfl) (by kernel_rfl) (by kernel_rfl) (fun _ _ _ h => h) hS0 rfl (fun wx hx => by obtain ⟨s1, s2, s3, s4, s5, s6⟩ := hx; go_simp) ?_
          refine wpAnyS_take (i := 5) (v := .int .i64 pd) rfl (by kernel_rfl) (by kernel_rfl) (by kernel_rfl) (by kernel_rfl) (fun _ _ _ h => h) hS0 rfl (fun wx hx => by obtain ⟨s1, s2, s3, s4, s5, s6⟩ := hx; go_simp) ?_
          refine wpAnyS_take (i := 6) (v := .pointer (some ⟨tb, 2, none⟩)) rfl (by kernel_rfl) (by kernel_rfl) (by kernel_rfl) (by kernel_rfl) (fun _ _ _ h => h) hS0 rfl (fun wx hx => by obtain ⟨s1, s2, s3, s4, s5, s6⟩ := hx; go_simp) ?_
          refine wpAnyS_take (i := 7) (v := .int .i64 dl) rfl (by kernel_rfl) (by kernel_rfl) (by kernel_rfl) (by kernel_rfl) (fun _ _ _ h => h) hS0 rfl (fun wx hx => by obtain ⟨s1, s2, s3, s4, s5, s6⟩ := hx; go_simp) ?_
          refine wpAnyS_take (i := 8) (v := .pointer (some ⟨tb, 3, none⟩)) rfl (by kernel_rfl) (by kernel_rfl) (by kernel_rfl) (by kernel_rfl) (fun _ _ _ h => h) hS0 rfl (fun wx hx => by obtain ⟨s1, s2, s3, s4, s5, s6⟩ := hx; go_simp) ?_
          refine wpAnyS_take (i := 9) (v := .int .i64 bu) rfl (by kernel_rfl) (by kernel_rfl) (by kernel_rfl) (by kernel_rfl) (fun _ _ _ h => h) hS0 rfl (fun wx hx => by obtain ⟨s1, s2, s3, s4, s5, s6⟩ := hx; go_simp) ?_
          refine wpAnyS_take (i := 10) (v := .pointer (some ⟨tb, 4, none⟩)) rfl (by kernel_rfl) (by kernel_rfl) (by kernel_rfl) (by kernel_rfl) (fun _ _ _ h => h) hS0 rfl (fun wx hx => by obtain ⟨s1, s2, s3, s4, s5, s6⟩ := hx; go_simp) ?_
          refine wpAnyS_take (i := 11) (v := .slice pa pr.length pc) rfl (by kernel_rfl) (by kernel_rfl) (by kernel_rfl) (by kernel_rfl) (fun _ _ _ h => h) hS0 rfl (fun wx hx => by obtain ⟨s1, s2, s3, s4, s5, s6⟩ := hx; go_simp) ?_
          refine wpAnyS_one (i := 12) rfl (by kernel_rfl) (fun KX hK => ?_)
          go_simp
          refine (ofAll_any pa pc pr W0 HP0 ho2 ho3).mono ?_
          rintro e W1 ⟨pv, rfl, ⟨svs, R1⟩, T1⟩
          have BB1 := BB0.kept T1
          have BR1 := BR0.kept T1
          have BX1 := BX0.kept T1
          have HC1 := HC0.kept T1
          have HT1 := HT0.kept T1
          have HD1 := HD0.kept T1
          have KW1 := KW0.trans T1
          obtain ⟨qa, qc, hpv, hq1, hq2, _⟩ := R1.view
          subst hpv
          have hp3 : ∀ w', Turns (ownB y (w.heap.size + 1 + 1)) W1 w' → AtP w' qa pr := by
            intro w' t
            have R2 := orow_turns R1 t (fun k hk => by
              rcases hk with hk | hk | hk
              · have := HYT k hk; omega
              · omega
              · omega)
            obtain ⟨qa', qc', e1, _, _, h⟩ := R2.view
            cases e1
            exact h
          have hS1 : W1.cell? ⟨(w.heap.size + 1 + 1), 2, none⟩ = some y ∧ W1.cell? ⟨tb, 0, none⟩ = some (.string (B nm)) ∧ W1.cell? ⟨tb, 1, none⟩ = some (.int .i64 pd) ∧ W1.cell? ⟨tb, 2, none⟩ = some (.int .i64 dl) ∧ W1.cell? ⟨tb, 3, none⟩ = some (.int .i64 bu) ∧ W1.cell? ⟨tb, 4, none⟩ = some (.slice pa pr.length pc) := ⟨BX1.cell 2 (by simp), HD1.cell 0 (by simp), HD1.cell 1 (by simp), HD1.cell 2 (by simp), HD1.cell 3 (by simp), HD1.cell 4 (by simp)⟩
          have z1 := T1.size
          refine hK _ _ (fun _ => hS1) ?_
          clear hK KX BB0 BR0 BX0 HC0 HT0 HD0 KW0 hS0 HP0
          refine wpAnyS_one (i := 13) rfl (by kernel_rfl) (fun KX hK => ?_)
          go_simp
          refine hK _ _ (fun _ => hS1) ?_
          clear hK KX
          refine wpAnyS_one (i := 14) rfl (by kernel_rfl) (fun KX hK => ?_)
          go_simp
          have A1 := (Kept.refl W1).alloc (.cells #[.string (B nm), .int .i64 pd, .int .i64 dl, .int .i64 bu, .slice qa pr.length qc] 74)
          refine hK _ _ (fun _ => ⟨A1.cell hS1.1, A1.cell hS1.2.1, A1.cell hS1.2.2.1, A1.cell hS1.2.2.2.1, A1.cell hS1.2.2.2.2.1, A1.cell hS1.2.2.2.2.2⟩) ?_
          clear hK KX A1
          refine wpAnyS_one (i := 15) rfl (by kernel_rfl) (fun KX hK => ?_)
          refine step_append_tk _ (by rfl) _ _ (by rfl) w.heap.size (w.heap.size + 1 + 1) y (ts.take j2) pvs ⟨nm, pd, dl, bu, pr⟩ qa qc _ rfl W1 (by rfl) (by rfl) W1.heap.size (by rfl) (by rfl) HT1 hq1 hq2 hp3 hlen KW1.size ?_
          intro g5 c5 w5 R5 t5 hg5
          rw [← HTK.out] at R5
          generalize (ts.take j2).length = mm at *
          have hnb : ∀ q, (Value.slice (some ⟨g5, 0, none⟩) (mm + 1) c5).ownBlock = some q → q = g5 := fun q hq => by simp [Value.ownBlock] at hq; exact hq.symm
          have B5 := BB1.turns t5 (fun e => by have := (HY2.out _ e).1; omega)
          have Q5 := BR1.turns t5 (fun e => by have := (HY2.out _ e).1; omega)
          have X5 := BX1.turns t5 (fun e => by have := (HY2.out _ e).1; omega)
          have D5 := HD1.turns t5 (fun e => by have := HYT _ e; omega)
          have C5 := HC1.turns t5 (fun q hq e => (HY2.out _ e).2 hq)
          have K5 : Kept w w5 := t5.kept KW1 (fun i hi => by have := (HY2.out _ hi).1; omega)
          have x1 : w5.cell? ⟨(w.heap.size + 1 + 1), 2, none⟩ = some y := X5.cell 2 (by simp)
          have x2 : w5.frozen? ⟨(w.heap.size + 1 + 1), 2, none⟩ = false := X5.frozen 2
          have hS5 := And.intro x1 (And.intro (D5.cell 0 (by simp)) (And.intro (D5.cell 1 (by simp)) (And.intro (D5.cell 2 (by simp)) (And.intro (D5.cell 3 (by simp)) (D5.cell 4 (by simp))))))
          have hgs : w.heap.size + 2 < g5 ∧ v.ownBlock ≠ some g5 := by
            rcases hg5 with h | h
            · exact HY2.out _ h
            · exact ⟨by omega, fun e => by have := (HNC.out _ e).2; omega⟩
          refine hK _ _ (fun _ => hS5) ?_
          clear hK KX
          refine wpAnyS_one (i := 16) rfl (by kernel_rfl) (fun KX hK => ?_)
          go_simp
          refine hK _ _ (fun _ => hS5) ?_
          clear hK KX
          refine wpAnyS_one (i := 17) rfl (by kernel_rfl) (fun KX hK => ?_)
          go_simp
          refine hK _ _ (fun h => absurd rfl h) ?_
          clear hK KX
          refine wpAnyS_done (by kernel_rfl) ?_ _
          have tf := turn_set w5 (w.heap.size + 1 + 1) 2 (.slice (some ⟨g5, 0, none⟩) (mm + 1) c5)
          have HB9 : Hid (Box w.heap.size (w5.setCell ⟨(w.heap.size + 1 + 1), 2, none⟩ (.slice (some ⟨g5, 0, none⟩) (mm + 1) c5)) 27 w.heap.size [.int .i64 L, .slice ca cs.length cc, .slice (some ⟨b, f, none⟩) ts.length tc]) := B5.turns tf (fun e => by omega)
          have HR9 : Hid (Box w.heap.size (w5.setCell ⟨(w.heap.size + 1 + 1), 2, none⟩ (.slice (some ⟨g5, 0, none⟩) (mm + 1) c5)) 47 (w.heap.size + 1) [.int .i64 0, .slice none 0 0, .slice none 0 0]) := Q5.turns tf (fun e => by omega)
          have HX9 : Hid (Box w.heap.size (w5.setCell ⟨(w.heap.size + 1 + 1), 2, none⟩ (.slice (some ⟨g5, 0, none⟩) (mm + 1) c5)) 47 (w.heap.size + 1 + 1) [.int .i64 L, v, (.slice (some ⟨g5, 0, none⟩) (mm + 1) c5)]) := X5.set 2 _
          have HC9 : Hid (HRow w.heap.size (w5.setCell ⟨(w.heap.size + 1 + 1), 2, none⟩ (.slice (some ⟨g5, 0, none⟩) (mm + 1) c5)) v cs) := C5.turns tf (fun q hq e => by have := (HNC.out q hq).1; omega)
          have HT9 : Hid (TRow w.heap.size (w.heap.size + 1 + 1) (w5.setCell ⟨(w.heap.size + 1 + 1), 2, none⟩ (.slice (some ⟨g5, 0, none⟩) (mm + 1) c5)) (.slice (some ⟨g5, 0, none⟩) (mm + 1) c5) (ts.take (j2 + 1)) (pvs ++ [.slice qa pr.length qc])) := R5.other tf (fun e => by have := hnb _ e; omega)
          have HY9 : Hid (∀ q, (Value.slice (some ⟨g5, 0, none⟩) (mm + 1) c5).ownBlock = some q → w.heap.size + 2 < q ∧ v.ownBlock ≠ some q) := fun q hq => by rw [hnb q hq]; exact hgs
          have HS9 : Hid (w.heap.size + 3 ≤ (w5.setCell ⟨(w.heap.size + 1 + 1), 2, none⟩ (.slice (some ⟨g5, 0, none⟩) (mm + 1) c5)).heap.size ∧ W.heap.size ≤ (w5.setCell ⟨(w.heap.size + 1 + 1), 2, none⟩ (.slice (some ⟨g5, 0, none⟩) (mm + 1) c5)).heap.size) := by
            have h1 := t5.size
            have h2 := tf.size
            exact ⟨by omega, by omega⟩
          have HK9 : Hid (Kept w (w5.setCell ⟨(w.heap.size + 1 + 1), 2, none⟩ (.slice (some ⟨g5, 0, none⟩) (mm + 1) c5))) := tf.kept K5 (fun i hi => by omega)
          clear B5 Q5 X5 D5 C5 K5 x1 x2 hS5 hS1 R5 t5 hg5 BB1 BR1 BX1 HC1 HT1 HD1 KW1 hp3 z0 z1 tf R1 T1 HYT HYW HY2
          go_wp2_with fail
          go_roundg gi
          case rel => exact ⟨j2 + 1, _, _, _, rfl, by go_num, by omega, HB9, HR9, HX9, HC9, HT9, HY9, HS9, HK9.out⟩
          case measure => omega
        · have b3 : ¬ (j2 : Int) < (ts.length : Int) := by omega
          have HTT : Hid (TRow w.heap.size (w.heap.size + 1 + 1) W2 y ts pvs) := by have h := HT2.out; rw [List.take_of_length_le (by omega)] at h; exact h
          obtain ⟨fa, fc, hv, A1, NF⟩ := HC2.out.view
          subst hv
          obtain ⟨ga, gc, hy, A2, N2⟩ := HTT.out.view
          subst hy
          have x0 : W2.cell? ⟨(w.heap.size + 1 + 1), 0, none⟩ = some (.int .i64 L) := HX2.out.cell 0 (by simp)
          have x1 : W2.cell? ⟨(w.heap.size + 1 + 1), 1, none⟩ = some (.slice fa cs.length fc) := HX2.out.cell 1 (by simp)
          have x2 : W2.cell? ⟨(w.heap.size + 1 + 1), 2, none⟩ = some (.slice ga ts.length gc) := HX2.out.cell 2 (by simp)
          have r0 : W2.cell? ⟨(w.heap.size + 1), 0, none⟩ = some (.int .i64 0) := HR2.out.cell 0 (by simp)
          have r1 : W2.cell? ⟨(w.heap.size + 1), 1, none⟩ = some (.slice none 0 0) := HR2.out.cell 1 (by simp)
          have r2 : W2.cell? ⟨(w.heap.size + 1), 2, none⟩ = some (.slice none 0 0) := HR2.out.cell 2 (by simp)
          have f0 : W2.frozen? ⟨(w.heap.size + 1), 0, none⟩ = false := HR2.out.frozen 0
          have f1 : W2.frozen? ⟨(w.heap.size + 1), 1, none⟩ = false := HR2.out.frozen 1
          have f2 : W2.frozen? ⟨(w.heap.size + 1), 2, none⟩ = false := HR2.out.frozen 2
          have tR : Turns (fun k => k = (w.heap.size + 1)) W2 (((W2.setCell ⟨(w.heap.size + 1), 0, none⟩ (.int .i64 L)).setCell ⟨(w.heap.size + 1), 1, none⟩ (.slice fa cs.length fc)).setCell ⟨(w.heap.size + 1), 2, none⟩ (.slice ga ts.length gc)) := ((turn_set W2 (w.heap.size + 1) 0 _).trans (turn_set _ (w.heap.size + 1) 1 _)).trans (turn_set _ (w.heap.size + 1) 2 _)
          have hfin : ∃ ca' cc' ta' tc', Value.agg #[.int .i64 L, .slice fa cs.length fc, .slice ga ts.length gc] = (.agg #[.int .i64 L, .slice ca' cs.length cc', .slice ta' ts.length tc']) ∧ AtH (((W2.setCell ⟨(w.heap.size + 1), 0, none⟩ (.int .i64 L)).setCell ⟨(w.heap.size + 1), 1, none⟩ (.slice fa cs.length fc)).setCell ⟨(w.heap.size + 1), 2, none⟩ (.slice ga ts.length gc)) ca' cs ∧ AtT (((W2.setCell ⟨(w.heap.size + 1), 0, none⟩ (.int .i64 L)).setCell ⟨(w.heap.size + 1), 1, none⟩ (.slice fa cs.length fc)).setCell ⟨(w.heap.size + 1), 2, none⟩ (.slice ga ts.length gc)) ta' ts ∧ (∀ b f, ta' = some ⟨b, f, none⟩ → w.heap.size ≤ b ∧ f = 0) ∧ Kept w (((W2.setCell ⟨(w.heap.size + 1), 0, none⟩ (.int .i64 L)).setCell ⟨(w.heap.size + 1), 1, none⟩ (.slice fa cs.length fc)).setCell ⟨(w.heap.size + 1), 2, none⟩ (.slice ga ts.length gc)) := by
            have ht := (HTT.out.res (tR.mono (fun k _ e => by omega)) (fun q hq e => by have := (HY2.out q hq).1; omega)).view
            obtain ⟨ga', gc', e1, B2, M2⟩ := ht
            cases e1
            refine ⟨_, _, _, _, rfl, A1.turns tR (fun b f e k => by have h1 := (NF b f e).2; have h2 := (HNC.out b h1).1; omega), B2, M2, tR.kept K2 (fun i hi => by omega)⟩
          clear HB2 HR2 HX2 HC2 HTT HT2 HY2 HS2 A1 A2 N2 tR
          go_wp2_with fail
          (try simp only [Exit.inBlock, Exit.then])
          refine bodyPost_ret (v := .agg #[.int .i64 L, .slice fa cs.length fc, .slice ga ts.length gc]) ?_ rfl ?_
          · rw [results_cell1 rfl]
            go_simp
          · obtain ⟨ca', cc', ta', tc', e1, e2, e3, e4, e5⟩ := hfin
            cases e1
            exact ⟨_, _, _, ⟨_, rfl⟩, e2, e3, e4, e5⟩
end OfS
end Go.Proofs.YtolljdomnohmdabGreatDoor
