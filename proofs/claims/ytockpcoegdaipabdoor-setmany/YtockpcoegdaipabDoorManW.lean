/- SetMany, walked. -/
import Derived.Test.YtockpcoegdaipabDoorMnS
import Derived.Test.YtockpcoegdaipabDoorNamW
import Derived.Test.YtockpcoegdaipabDoorHld
namespace Go.Proofs.YtockpcoegdaipabDoor
open Go.RowKit

theorem wrapN {z : Int} (h0 : -1000000000 ≤ z) (h1 : z ≤ 1000000000) : IntKind.i64.wrap z = z := by
  simp [IntKind.wrap, IntKind.bits, IntKind.signed]
  omega
theorem n1_len {ns : List (List UInt8)} {k : Nat} (h : ns = n1s k) : ∀ n ∈ ns, n.length ≤ 1000 := by
  intro n hn
  rw [h] at hn
  simp only [n1s, List.mem_map] at hn
  obtain ⟨i, _, rfl⟩ := hn
  simp [nm1]
theorem man_ok (k i : Nat) (p : List OpD) (hp : p.length ≤ 1000) (hc : ∀ o ∈ p, o.cases.length ≤ 1000) : TsOk (manT k i p) := by
  intro t ht
  unfold manT at ht
  rcases List.mem_or_eq_of_mem_set ht with ht | ht
  · exact mk_ok _ 9 (n1_len rfl) t ht
  · subst ht
    exact ⟨by simp [nm1], by simp only; omega, fun o ho => by have := hc o ho; omega⟩

set_option maxHeartbeats 8000000 in
set_option maxRecDepth 20000 in
theorem many_law (n m k who : Int) (hn0 : 0 ≤ n) (hn1 : n ≤ 255) (hm0 : 0 ≤ m) (hm1 : m ≤ 255) (hk0 : 0 ≤ k) (hk1 : k ≤ 255) (hw0 : 0 ≤ who) (hw1 : who ≤ 255) (w : World) (hr : Rdy w) : Calls Tryd.prog 3 #[.int .u8 n, .int .u8 m, .int .u8 k, .int .u8 who] w fun e w' => e = .returned (.bool true) ∧ Kept w w' := by
  have HR : Hid (Rdy w) := hr
  clear hr
  obtain ⟨A, hA⟩ : ∃ A : Nat, n % 15 = (A : Int) := ⟨(n % 15).toNat, by omega⟩
  obtain ⟨D, hD⟩ : ∃ D : Nat, m % 11 = (D : Int) := ⟨(m % 11).toNat, by omega⟩
  obtain ⟨C, hC⟩ : ∃ C : Nat, k % 11 = (C : Int) := ⟨(k % 11).toNat, by omega⟩
  have hA14 : A ≤ 14 := by omega
  have hD10 : D ≤ 10 := by omega
  have hC10 : C ≤ 10 := by omega
  go_enter Tryd.func3, Tryd.ntmps3
  go_wp2_with fail
  refine (sknown_true w HR.out).mono ?_
  rintro e w1 ⟨rfl, K1⟩
  have HB0 : Hid (Box w.heap.size (w1.alloc (.cells #[.int .i64 (C : Int), .slice none 0 0, .slice none 0 0] 26)) 26 w1.heap.size [.int .i64 (C : Int), .slice none 0 0, .slice none 0 0]) := box_new w.heap.size w1 26 [.int .i64 (C : Int), .slice none 0 0, .slice none 0 0] K1.size (by simp)
  have KA := K1.alloc (.cells #[.int .i64 (C : Int), .slice none 0 0, .slice none 0 0] 26)
  obtain ⟨sb, hsb⟩ : ∃ sb, w1.heap.size = sb := ⟨_, rfl⟩
  rw [hsb] at HB0
  go_wp2_with fail
  clear hA hD hC
  go_loopg [13] D (fun gk i wr => ∃ (j : Nat) (v : Value), i = .int .i64 j ∧ j + gk = D ∧ Hid (Box w.heap.size wr 26 sb [.int .i64 (C : Int), v, .slice none 0 0]) ∧ Hid (HRow w.heap.size wr v (chs j)) ∧ Hid (v.ownBlock ≠ some sb) ∧ Kept w wr)
  case atStart => exact ⟨0, _, rfl, by omega, HB0, World.ownsRow_nil _ _ _ _, (by show _ ≠ _; simp [Value.ownBlock]), KA⟩
  case round =>
    obtain ⟨j, v, rfl, hj, HB, HH, HS, KK⟩ := hrel
    by_cases hjD : j < D
    · have b1 : (j : Int) < (D : Int) := by omega
      obtain ⟨g3', rfl⟩ : ∃ g, gk = g + 1 := ⟨gk - 1, by omega⟩
      have c1 : wr.cell? ⟨sb, 1, none⟩ = some v := HB.out.cell 1 (by simp)
      have sblt := HB.out.lt.2
      have hlen : (chs j).length ≤ 1000000 := by rw [chs_len]; omega
      go_wp2_with (at_builtin; refine wpList_append_chan _ (by rfl) _ _ rfl w.heap.size v (chs j) (chI j) wr _ rfl (by rfl) (by rfl) wr.heap.size (by rfl) (by rfl) HH.out hlen KK.size ?_; intro g5 c5 w5 R5 t5 hg5; have B5 : Box w.heap.size w5 26 sb [.int .i64 (C : Int), v, .slice none 0 0] := HB.out.turns t5 (fun e => HS.out e); have z2 : w5.cell? ⟨sb, 1, none⟩ = some v := B5.cell 1 (by simp); have z3 : w5.frozen? ⟨sb, 1, none⟩ = false := B5.frozen 1; have hgs : g5 ≠ sb := (by intro e; rcases hg5 with h | h; exact HS.out (e ▸ h); omega); have HB5 : Hid (Box w.heap.size w5 26 sb [.int .i64 (C : Int), v, .slice none 0 0]) := B5; have HR5 : Hid (HRow w.heap.size w5 (.slice (some ⟨g5, 0, none⟩) ((chs j).length + 1) c5) (chs j ++ [chI j])) := R5; have K5 : Kept w w5 := t5.kept KK (fun i hi => (World.ownsRow.lt HH.out i hi).1); clear R5 B5)
      go_roundg g3'
      case rel =>
        have tf := turn_set w5 sb 1 (.slice (some ⟨g5, 0, none⟩) ((chs j).length + 1) c5)
        refine ⟨j + 1, _, by go_num, by omega, HB5.out.set 1 _, ?_, ?_, tf.kept K5 (fun i hi => by have := HB5.out.lt.1; omega)⟩
        · show HRow _ _ _ _
          rw [chs_succ]
          exact HR5.out.turns tf (fun q hq e => by simp [Value.ownBlock] at hq; omega)
        · show _ ≠ _
          simp [Value.ownBlock]; omega
      case measure => omega
    · have b1 : ¬ (j : Int) < (D : Int) := by omega
      obtain rfl : j = D := by omega
      have HM0 : Hid (MSt w.heap.size wr sb (C : Int) v (.slice none 0 0) (chs j) []) := ⟨HB.out, HH.out, TE.nil _ _ _, (fun e he => by cases he), HS.out, (by simp [Value.ownBlock]), (fun e he => by cases he), (fun q _ => by simp [Value.ownBlock]), List.Pairwise.nil⟩
      have KK0 := KK
      clear HB HH HS KK
      go_wp2_with fail
      go_loopg [14] A (fun gk i wq => ∃ (j2 : Nat) (v2 : Value) (es : List (List UInt8 × Nat)) (W : World), W = wq ∧ i = .int .i64 j2 ∧ j2 + gk = A ∧ Hid (MSt w.heap.size W sb (C : Int) v v2 (chs j) es) ∧ Hid (es.map (·.1) = n1s j2) ∧ Kept w W)
      case atStart => exact ⟨0, _, [], _, rfl, rfl, by omega, HM0, (by show _ = _; rfl), KK0⟩
      case round =>
        obtain ⟨j2, v2, es, W, hWW, rfl, hj2, HM, HN, KK⟩ := hrel
        subst hWW
        have hel : es.length = j2 := by have := congrArg List.length HN.out; simpa [n1s_len] using this
        by_cases hjA : j2 < A
        · have b2 : (j2 : Int) < (A : Int) := by omega
          obtain ⟨g3', rfl⟩ : ∃ g, gk = g + 1 := ⟨gk - 1, by omega⟩
          have c2 : W.cell? ⟨sb, 2, none⟩ = some v2 := HM.out.bx.cell 2 (by simp)
          have hcv := conv1 W j2 (by omega)
          have sblt := HM.out.bx.lt.2
          have KW : Kept W ((W.alloc (.cells #[.int .u8 (97 + (j2 : Int))] 5)).alloc (.cells #[.int .i64 1, .int .i64 1, .int .i64 0, .int .i64 0, .slice none 0 0] 32)) := ((Kept.refl W).alloc _).alloc _
          have KW0 : Kept w ((W.alloc (.cells #[.int .u8 (97 + (j2 : Int))] 5)).alloc (.cells #[.int .i64 1, .int .i64 1, .int .i64 0, .int .i64 0, .slice none 0 0] 32)) := KK.trans KW
          have HM3 : Hid (MSt w.heap.size ((W.alloc (.cells #[.int .u8 (97 + (j2 : Int))] 5)).alloc (.cells #[.int .i64 1, .int .i64 1, .int .i64 0, .int .i64 0, .slice none 0 0] 32)) sb (C : Int) v v2 (chs j) es) := HM.out.kept KW
          have hszA : (W.alloc (.cells #[.int .u8 (97 + (j2 : Int))] 5)).heap.size = W.heap.size + 1 := by simp
          have hszB : ((W.alloc (.cells #[.int .u8 (97 + (j2 : Int))] 5)).alloc (.cells #[.int .i64 1, .int .i64 1, .int .i64 0, .int .i64 0, .slice none 0 0] 32)).heap.size = W.heap.size + 1 + 1 := by simp
          have HPR : Hid (PRow w.heap.size ((W.alloc (.cells #[.int .u8 (97 + (j2 : Int))] 5)).alloc (.cells #[.int .i64 1, .int .i64 1, .int .i64 0, .int .i64 0, .slice none 0 0] 32)) (W.heap.size + 1)) := by
            have h := orow_litN w.heap.size (W.alloc (.cells #[.int .u8 (97 + (j2 : Int))] 5)) [oRun 1] (by simp [oRun]) #[.int .i64 1, .int .i64 1, .int .i64 0, .int .i64 0, .slice none 0 0] rfl (by have := KK.size; omega) (by simp) 1 rfl
            rw [hszA] at h
            exact h.row
          have HPB : Hid (W.heap.size + 1 ≠ sb ∧ v.ownBlock ≠ some (W.heap.size + 1) ∧ v2.ownBlock ≠ some (W.heap.size + 1)) := by
            refine ⟨by omega, fun e => ?_, fun e => ?_⟩
            · have := (World.ownsRow.lt HM.out.hr _ e).2
              omega
            · have := (World.ownsRow.lt HM.out.te.row _ e).2
              omega
          have HP3 : Hid (AtP ((W.alloc (.cells #[.int .u8 (97 + (j2 : Int))] 5)).alloc (.cells #[.int .i64 1, .int .i64 1, .int .i64 0, .int .i64 0, .slice none 0 0] 32)) (some ⟨W.heap.size + 1, 0, none⟩) [oRun 1] ∧ v2.ownBlock ≠ some (W.heap.size + 1) ∧ w.heap.size ≤ W.heap.size + 1 ∧ W.heap.size + 1 < ((W.alloc (.cells #[.int .u8 (97 + (j2 : Int))] 5)).alloc (.cells #[.int .i64 1, .int .i64 1, .int .i64 0, .int .i64 0, .slice none 0 0] 32)).heap.size) := by
            refine ⟨?_, HPB.out.2.2, by have := KK.size; omega, by omega⟩
            have h := lit_ops (W.alloc (.cells #[.int .u8 (97 + (j2 : Int))] 5)) [oRun 1] (by simp [oRun]) #[.int .i64 1, .int .i64 1, .int .i64 0, .int .i64 0, .slice none 0 0] rfl
            rw [hszA] at h
            exact h
          have hlen : es.length ≤ 1000000 := by omega
          go_wp2_with (at_builtin; refine wpList_append_task _ (by rfl) _ _ rfl w.heap.size v2 9 es (nm1 j2) (W.heap.size + 1) ((W.alloc (.cells #[.int .u8 (97 + (j2 : Int))] 5)).alloc (.cells #[.int .i64 1, .int .i64 1, .int .i64 0, .int .i64 0, .slice none 0 0] 32)) _ rfl (by rfl) (by rfl) (W.heap.size + 1 + 1) hszB.symm (by rfl) HM3.out.te HP3.out hlen KW0.size ?_; intro g5 c5 w5 R5 t5 hg5; have B5 : Box w.heap.size w5 26 sb [.int .i64 (C : Int), v, v2] := HM3.out.bx.turns t5 (fun e => HM3.out.d2 e); have z2 : w5.cell? ⟨sb, 2, none⟩ = some v2 := B5.cell 2 (by simp); have z3 : w5.frozen? ⟨sb, 2, none⟩ = false := B5.frozen 2; have HM5 : Hid (MSt w.heap.size (w5.setCell ⟨sb, 2, none⟩ (.slice (some ⟨g5, 0, none⟩) (es.length + 1) c5)) sb (C : Int) v (.slice (some ⟨g5, 0, none⟩) (es.length + 1) c5) (chs j) (es ++ [(nm1 j2, W.heap.size + 1)])) := HM3.out.grow t5 hg5 R5 HPR.out HPB.out (fun e he => by have := (HM.out.te.pg e he).2.2.2; omega); have K5 : Kept w w5 := t5.kept KW0 (fun i hi => (World.ownsRow.lt HM3.out.te.row i hi).1); have lo5 := B5.lt.1; clear R5 B5)
          go_roundg g3'
          case rel =>
            have HM6 := HM5.out
            rw [hel] at HM6
            have tf := turn_set w5 sb 2 (.slice (some ⟨g5, 0, none⟩) (j2 + 1) c5)
            refine ⟨j2 + 1, _, _, _, rfl, by go_num, by omega, HM6, ?_, tf.kept K5 (fun i hi => by omega)⟩
            show _ = _
            rw [List.map_append, HN.out, n1s_succ]
            rfl
          case measure => omega
        · have b2 : ¬ (j2 : Int) < (A : Int) := by omega
          obtain rfl : j2 = A := by omega
          obtain ⟨ca, cc, hva, hcat⟩ := HM.out.hr.view
          obtain ⟨ta, tc, hvt, htat⟩ := HM.out.te.view
          rw [chs_len] at hva
          rw [hel] at hvt
          rw [HN.out] at htat
          subst hva
          subst hvt
          have s0 : W.cell? ⟨sb, 0, none⟩ = some (.int .i64 (C : Int)) := HM.out.bx.cell 0 (by simp)
          have s1 : W.cell? ⟨sb, 1, none⟩ = some (.slice ca j cc) := HM.out.bx.cell 1 (by simp)
          have s2 : W.cell? ⟨sb, 2, none⟩ = some (.slice ta j2 tc) := HM.out.bx.cell 2 (by simp)
          have hcl := chs_len j
          have htl : (mkT 9 (n1s j2)).length = j2 := by rw [mk_len, n1s_len]
          have HCH : Hid (AtH W ca (chs j)) := hcat
          have hck := scheck_any (C : Int) ca ta cc tc (chs j) (mkT 9 (n1s j2)) W (HR.out.kept KK) HCH.out htat (mk_ok _ 9 (n1_len rfl)) (by omega) (by omega)
          rw [hcl, htl, man_check1] at hck
          obtain ⟨q1, hq1⟩ : ∃ q, (checkS (C : Int) (chs j) (mkT 9 (n1s j2))).1 = q := ⟨_, rfl⟩
          rw [hq1] at hck
          clear hq1 hcl htl hcat htat
          by_cases hc8 : 8 < C
          · have d1 : (C : Int) > 8 := by omega
            rw [if_pos hc8] at hck
            go_wp2_with fail
            refine hck.mono ?_
            rintro e w5 ⟨rfl, t5⟩
            go_wp2_with fail
            go_ret
            exact ⟨rfl, KK.trans t5⟩
          have d1 : ¬ (C : Int) > 8 := by omega
          rw [if_neg hc8] at hck
          by_cases hb8 : 8 < j
          · have d2 : (j : Int) > 8 := by omega
            rw [if_pos (.inl hb8)] at hck
            go_wp2_with fail
            refine hck.mono ?_
            rintro e w5 ⟨rfl, t5⟩
            go_wp2_with fail
            go_ret
            exact ⟨rfl, KK.trans t5⟩
          have d2 : ¬ (j : Int) > 8 := by omega
          by_cases ha1 : j2 < 1
          · have d3 : (j2 : Int) < 1 := by omega
            rw [if_pos (.inr (.inl ha1))] at hck
            go_wp2_with fail
            refine hck.mono ?_
            rintro e w5 ⟨rfl, t5⟩
            go_wp2_with fail
            go_ret
            exact ⟨rfl, by first | exact KK.trans t5 | (simp_all; done)⟩
          have d3 : ¬ (j2 : Int) < 1 := by omega
          by_cases ha12 : 12 < j2
          · have d4 : (j2 : Int) > 12 := by omega
            rw [if_pos (.inr (.inr ha12))] at hck
            go_wp2_with fail
            refine hck.mono ?_
            rintro e w5 ⟨rfl, t5⟩
            go_wp2_with fail
            go_ret
            exact ⟨rfl, KK.trans t5⟩
          have d4 : ¬ (j2 : Int) > 12 := by omega
          rw [if_neg (by omega)] at hck
          obtain ⟨g, hg⟩ : ∃ g, ta = some ⟨g, 0, none⟩ := by
            rcases HM.out.te.row.2 with ⟨_, h2⟩ | ⟨g, cap, cur, h2, _⟩
            · omega
            · exact ⟨g, (Value.slice.inj h2).1⟩
          subst hg
          have hi0 : ¬ (j2 : Int) = 0 := by omega
          have hi2 : ¬ j2 = 0 := by omega
          obtain ⟨I, hI⟩ : ∃ I : Nat, who.tmod (j2 : Int) = (I : Int) := ⟨(who.tmod (j2 : Int)).toNat, by have := Int.tmod_nonneg (j2 : Int) hw0; omega⟩
          have hIj : I < j2 := by have := Int.tmod_lt_of_pos who (show (0 : Int) < (j2 : Int) by omega); omega
          have wI : IntKind.i64.wrap (I : Int) = I := wrapN (by omega) (by omega)
          have wW : IntKind.i64.wrap who = who := wrapN (by omega) (by omega)
          have i1 : (I : Int) < (j2 : Int) := by omega
          have i2 : (0 : Int) ≤ (I : Int) := by omega
          obtain ⟨e0, he0⟩ : ∃ e, es[I]? = some e := ⟨_, List.getElem?_eq_getElem (by omega)⟩
          have HE0 : Hid (e0.1 = nm1 I) := by
            have h := congrArg (fun l => l[I]?) HN.out
            simp only [List.getElem?_map, he0, n1s_get hIj] at h
            exact Option.some.inj h
          have hem := List.mem_of_getElem? he0
          have HTE := HM.out.te
          rw [← hel] at HTE
          have HTM : Hid (TM w.heap.size W g tc es I (.slice (some ⟨e0.2, 0, none⟩) 1 1)) := HTE.toM he0
          have n1 : e0.2 ≠ g := fun e2 => (HTE.pg e0 hem).2.1 (by rw [e2]; rfl)
          have n2 : e0.2 ≠ sb := (HM.out.d3 e0 hem).1
          have n3 : g ≠ sb := fun e2 => HM.out.d2 (by rw [e2]; rfl)
          have HNE : Hid (∀ (q : Nat) (e : List UInt8 × Nat), es[q]? = some e → q ≠ I → e.2 ≠ e0.2) := fun q e hq hne => by
            have hp := List.pairwise_iff_getElem.1 HM.out.d5
            have hql := (List.getElem?_eq_some_iff.1 hq).1
            have hIl := (List.getElem?_eq_some_iff.1 he0).1
            have eq1 : es[q] = e := by rw [List.getElem?_eq_getElem hql] at hq; exact Option.some.inj hq
            have eq2 : es[I] = e0 := by rw [List.getElem?_eq_getElem hIl] at he0; exact Option.some.inj he0
            rcases Nat.lt_or_gt_of_ne hne with h | h
            · have := hp q I hql hIl h
              rw [eq1, eq2] at this
              exact this
            · have := hp I q hIl hql h
              rw [eq1, eq2] at this
              exact fun x => this x.symm
          clear HTE
          go_wp2_with fail
          refine hck.mono ?_
          rintro e w5 ⟨rfl, t5⟩
          have K5 := KK.trans t5
          have HM5 : Hid (MSt w.heap.size w5 sb (C : Int) (.slice ca j cc) (.slice (some ⟨g, 0, none⟩) j2 tc) (chs j) es) := HM.out.kept t5
          have HT5 : Hid (TM w.heap.size w5 g tc es I (.slice (some ⟨e0.2, 0, none⟩) 1 1)) := HTM.out.kept t5
          have y2 : w5.drew.cell? ⟨sb, 2, none⟩ = some (.slice (some ⟨g, 0, none⟩) j2 tc) := HM5.out.bx.cell 2 (by simp)
          have y4 : w5.drew.cell? ⟨g, I * 5 + 4, none⟩ = some (.slice (some ⟨e0.2, 0, none⟩) 1 1) := by
            show w5.cell? _ = _
            rw [HT5.out.row.cellAt (I * 5 + 4) (by omega), List.getElem?_set_self (by rw [flatE_len]; omega)]
          have hPR : w5.drew.ownsRow w.heap.size 32 5 (.slice (some ⟨e0.2, 0, none⟩) 1 1) 1 (flatO [oRun 1] (nils [oRun 1])) := HM5.out.pr e0 hem
          have hK5s : w.heap.size ≤ w5.drew.heap.size := K5.size
          have sbl := HM5.out.bx.lt
          have gl := World.ownsRow.lt HT5.out.row g rfl
          clear hck s0 s1 s2
          go_wp2_with fail
          refine wp_region_S (by kernel_rfl) 17 (fun w' => w'.cell? ⟨sb, 2, none⟩ = some (.slice (some ⟨g, 0, none⟩) j2 tc) ∧ w'.cell? ⟨g, I * 5 + 4, none⟩ = some (.slice (some ⟨e0.2, 0, none⟩) 1 1)) ?_
          have hS0 : w5.drew.cell? ⟨sb, 2, none⟩ = some (.slice (some ⟨g, 0, none⟩) j2 tc) ∧ w5.drew.cell? ⟨g, I * 5 + 4, none⟩ = some (.slice (some ⟨e0.2, 0, none⟩) 1 1) := ⟨y2, y4⟩
          refine wpAnyS_take (i := 0) (v := .pointer (some ⟨sb, 2, none⟩)) rfl (by kernel_rfl) (by kernel_rfl) (by kernel_rfl) (by kernel_rfl) (fun _ _ _ h => h) hS0 rfl (fun wx hx => by obtain ⟨s1, s2⟩ := hx; go_simp) ?_
          refine wpAnyS_take (i := 1) (v := .slice (some ⟨g, 0, none⟩) j2 tc) rfl (by kernel_rfl) (by kernel_rfl) (by kernel_rfl) (by kernel_rfl) (fun _ _ _ h => h) hS0 rfl (fun wx hx => by obtain ⟨s1, s2⟩ := hx; go_simp) ?_
          refine wpAnyS_take (i := 2) (v := .int .i64 (I : Int)) rfl (by kernel_rfl) (by kernel_rfl) (by kernel_rfl) (by kernel_rfl) (fun _ _ _ h => h) hS0 rfl (fun wx hx => by obtain ⟨s1, s2⟩ := hx; go_simp) ?_
          refine wpAnyS_take (i := 3) (v := .pointer (some ⟨sb, 2, none⟩)) rfl (by kernel_rfl) (by kernel_rfl) (by kernel_rfl) (by kernel_rfl) (fun _ _ _ h => h) hS0 rfl (fun wx hx => by obtain ⟨s1, s2⟩ := hx; go_simp) ?_
          refine wpAnyS_take (i := 4) (v := .slice (some ⟨g, 0, none⟩) j2 tc) rfl (by kernel_rfl) (by kernel_rfl) (by kernel_rfl) (by kernel_rfl) (fun _ _ _ h => h) hS0 rfl (fun wx hx => by obtain ⟨s1, s2⟩ := hx; go_simp) ?_
          refine wpAnyS_take (i := 5) (v := .int .i64 (I : Int)) rfl (by kernel_rfl) (by kernel_rfl) (by kernel_rfl) (by kernel_rfl) (fun _ _ _ h => h) hS0 rfl (fun wx hx => by obtain ⟨s1, s2⟩ := hx; go_simp) ?_
          refine wpAnyS_take (i := 6) (v := .pointer (some ⟨g, I * 5, none⟩)) rfl (by kernel_rfl) (by kernel_rfl) (by kernel_rfl) (by kernel_rfl) (fun _ _ _ h => h) hS0 rfl (fun wx hx => by obtain ⟨s1, s2⟩ := hx; go_simp) ?_
          refine wpAnyS_take (i := 7) (v := .pointer (some ⟨g, I * 5 + 4, none⟩)) rfl (by kernel_rfl) (by kernel_rfl) (by kernel_rfl) (by kernel_rfl) (fun _ _ _ h => h) hS0 rfl (fun wx hx => by obtain ⟨s1, s2⟩ := hx; go_simp) ?_
          refine wpAnyS_take (i := 8) (v := .slice (some ⟨e0.2, 0, none⟩) 1 1) rfl (by kernel_rfl) (by kernel_rfl) (by kernel_rfl) (by kernel_rfl) (fun _ _ _ h => h) hS0 rfl (fun wx hx => by obtain ⟨s1, s2⟩ := hx; go_simp) ?_
          refine wpAnyS_take (i := 9) (v := .int .i64 (C : Int)) rfl (by kernel_rfl) (by kernel_rfl) (by kernel_rfl) (by kernel_rfl) (fun _ _ _ h => h) hS0 rfl (fun wx hx => by obtain ⟨s1, s2⟩ := hx; go_simp) ?_
          refine wpAnyS_take (i := 10) (v := .agg #[.int .i64 2, .int .i64 (C : Int), .int .i64 0, .int .i64 0, .slice none 0 0]) rfl (by kernel_rfl) (by kernel_rfl) (by kernel_rfl) (by kernel_rfl) (fun _ _ _ h => h) hS0 rfl (fun wx hx => by obtain ⟨s1, s2⟩ := hx; go_simp) ?_
          refine wpAnyS_take (i := 11) (v := .int .i64 (C : Int)) rfl (by kernel_rfl) (by kernel_rfl) (by kernel_rfl) (by kernel_rfl) (fun _ _ _ h => h) hS0 rfl (fun wx hx => by obtain ⟨s1, s2⟩ := hx; go_simp) ?_
          refine wpAnyS_take (i := 12) (v := .agg #[.int .i64 3, .int .i64 (C : Int), .int .i64 0, .int .i64 0, .slice none 0 0]) rfl (by kernel_rfl) (by kernel_rfl) (by kernel_rfl) (by kernel_rfl) (fun _ _ _ h => h) hS0 rfl (fun wx hx => by obtain ⟨s1, s2⟩ := hx; go_simp) ?_
          refine wpAnyS_one (i := 13) rfl (by kernel_rfl) (fun K hK => ?_)
          go_simp
          have KA5 := ((Kept.refl w5).drew).alloc (.cells #[.int .i64 2, .int .i64 (C : Int), .int .i64 0, .int .i64 0, .slice none 0 0, .int .i64 3, .int .i64 (C : Int), .int .i64 0, .int .i64 0, .slice none 0 0] 32)
          have hS1 := And.intro (KA5.cell y2) (KA5.cell y4)
          refine hK _ _ (fun _ => hS1) ?_
          clear hK K
          refine wpAnyS_one (i := 14) rfl (by kernel_rfl) (fun K hK => ?_)
          refine step_append_lits _ (by rfl) _ _ (by rfl) w.heap.size (.slice (some ⟨e0.2, 0, none⟩) 1 1) [oRun 1] [⟨2, (C : Int), 0, 0, []⟩, ⟨3, (C : Int), 0, 0, []⟩] (by simp) (by simp) _ rfl w5.drew (by rfl) (by rfl) w5.drew.heap.size (by rfl) 2 (by rfl) (by rfl) hPR (by simp) hK5s ?_
          intro g7 c7 w7 R7 t7 hg7
          have sz7 := t7.size
          have g7n : g7 ≠ g := by
            intro e2
            rcases hg7 with h | h
            · simp [Value.ownBlock] at h; omega
            · have : w5.drew.heap.size = w5.heap.size := rfl
              omega
          have HX7 : Hid (Box w.heap.size w7 26 sb [.int .i64 (C : Int), .slice ca j cc, .slice (some ⟨g, 0, none⟩) j2 tc]) := (HM5.out.bx.kept ((Kept.refl w5).drew)).turns t7 (fun e2 => by simp [Value.ownBlock] at e2; omega)
          have HT7 : Hid (TM w.heap.size w7 g tc es I (.slice (some ⟨e0.2, 0, none⟩) 1 1)) := (HT5.out.kept ((Kept.refl w5).drew)).turns t7 (fun e2 => by simp [Value.ownBlock] at e2; omega) (fun q e hq hne e2 => by simp [Value.ownBlock] at e2; exact HNE.out q e hq hne e2.symm)
          have HH7 : Hid (HRow w.heap.size w7 (.slice ca j cc) (chs j)) := (HM5.out.hr.turns ((Kept.refl w5).drew).turns (fun _ _ x => x)).turns t7 (fun q hq e2 => by simp [Value.ownBlock] at e2; exact (HM5.out.d3 e0 hem).2 (by rw [hq, e2]))
          have K7 : Kept w w7 := t7.kept K5.drew (fun q hq => by simp [Value.ownBlock] at hq; have := (HM5.out.te.pg e0 hem).2.2.1; omega)
          have HAP7 : Hid (3 ≤ c7 ∧ AtP w7 (some ⟨g7, 0, none⟩) (lkPr (C : Int))) := atp_own (p := lkPr (C : Int)) R7 (by simp [lkPr, oRun])
          have x2 : w7.cell? ⟨sb, 2, none⟩ = some (.slice (some ⟨g, 0, none⟩) j2 tc) := HX7.out.cell 2 (by simp)
          have x4 : w7.cell? ⟨g, I * 5 + 4, none⟩ = some (.slice (some ⟨e0.2, 0, none⟩) 1 1) := by rw [HT7.out.row.cellAt (I * 5 + 4) (by omega), List.getElem?_set_self (by rw [flatE_len]; omega)]
          have xf : w7.frozen? ⟨g, I * 5 + 4, none⟩ = false := HT7.out.row.frozenAt (I * 5 + 4)
          have hS2 := And.intro x2 x4
          refine hK _ _ (fun _ => hS2) ?_
          clear hK K R7
          refine wpAnyS_one (i := 15) rfl (by kernel_rfl) (fun K hK => ?_)
          go_simp
          refine hK _ _ (fun _ => hS2) ?_
          clear hK K
          refine wpAnyS_one (i := 16) rfl (by kernel_rfl) (fun K hK => ?_)
          go_simp
          refine hK _ _ (fun _ => hS2) ?_
          clear hK K
          refine wpAnyS_one (i := 17) rfl (by kernel_rfl) (fun K hK => ?_)
          go_simp
          refine hK _ _ (fun h => absurd rfl h) ?_
          clear hK K
          refine wpAnyS_done (by kernel_rfl) ?_ _
          have tf := turn_set w7 g (I * 5 + 4) (.slice (some ⟨g7, 0, none⟩) 3 c7)
          have HTE1 : Hid (TM w.heap.size (w7.setCell ⟨g, I * 5 + 4, none⟩ (.slice (some ⟨g7, 0, none⟩) 3 c7)) g tc es I (.slice (some ⟨g7, 0, none⟩) 3 c7)) := HT7.out.set (.slice (some ⟨g7, 0, none⟩) 3 c7)
          have HXE1 : Hid (Box w.heap.size (w7.setCell ⟨g, I * 5 + 4, none⟩ (.slice (some ⟨g7, 0, none⟩) 3 c7)) 26 sb [.int .i64 (C : Int), .slice ca j cc, .slice (some ⟨g, 0, none⟩) j2 tc]) := HX7.out.turns tf (fun e2 => n3 e2.symm)
          have HHE1 : Hid (HRow w.heap.size (w7.setCell ⟨g, I * 5 + 4, none⟩ (.slice (some ⟨g7, 0, none⟩) 3 c7)) (.slice ca j cc) (chs j)) := HH7.out.turns tf (fun q hq e2 => HM5.out.d4 q hq (by rw [e2]; rfl))
          have KE1 : Kept w (w7.setCell ⟨g, I * 5 + 4, none⟩ (.slice (some ⟨g7, 0, none⟩) 3 c7)) := tf.kept K7 (fun q hq => by omega)
          have HA1 : Hid (AtT (w7.setCell ⟨g, I * 5 + 4, none⟩ (.slice (some ⟨g7, 0, none⟩) 3 c7)) (some ⟨g, 0, none⟩) (manT j2 I (lkPr (C : Int)))) := by
            have h := HTE1.out.at (p := lkPr (C : Int)) he0 (HAP7.out.2.turn0 tf (fun e2 => g7n e2) (by simp [lkPr, oRun])) HAP7.out.1
            rw [HN.out, HE0.out] at h
            exact h
          have hml : ∀ p, (manT j2 I p).length = j2 := fun p => by simp [manT, mkT, n1s]
          have hck2 := scheck_any (C : Int) ca (some ⟨g, 0, none⟩) cc tc (chs j) (manT j2 I (lkPr (C : Int))) (w7.setCell ⟨g, I * 5 + 4, none⟩ (.slice (some ⟨g7, 0, none⟩) 3 c7)) (HR.out.kept KE1) HHE1.out.at HA1.out (man_ok _ _ _ (by simp [lkPr]) (by simp [lkPr, oRun])) (by rw [hml]; omega) (by rw [chs_len]; omega)
          have hcs2 : checkS (C : Int) (chs j) (manT j2 I (lkPr (C : Int))) = (I, if C = 8 then 1 else 3) := man_check2 j2 j C I (lkPr (C : Int)) _ (by omega) (by omega) (by omega) hIj (by split <;> omega) (lk_e ⟨C, by omega⟩ ⟨j, by omega⟩)
          rw [hcs2, chs_len, hml] at hck2
          have v0 : (w7.setCell ⟨g, I * 5 + 4, none⟩ (.slice (some ⟨g7, 0, none⟩) 3 c7)).cell? ⟨sb, 0, none⟩ = some (.int .i64 (C : Int)) := HXE1.out.cell 0 (by simp)
          have v1 : (w7.setCell ⟨g, I * 5 + 4, none⟩ (.slice (some ⟨g7, 0, none⟩) 3 c7)).cell? ⟨sb, 1, none⟩ = some (.slice ca j cc) := HXE1.out.cell 1 (by simp)
          have v2 : (w7.setCell ⟨g, I * 5 + 4, none⟩ (.slice (some ⟨g7, 0, none⟩) 3 c7)).cell? ⟨sb, 2, none⟩ = some (.slice (some ⟨g, 0, none⟩) j2 tc) := HXE1.out.cell 2 (by simp)
          clear hcs2 y2 y4 hPR hS0 hS1 hS2 x2 x4 xf
          by_cases hC8 : C = 8
          · have o1 : (C : Int) = 8 := by omega
            rw [if_pos hC8] at hck2
            subst hC8
            go_wp2_with fail
            refine hck2.mono ?_
            rintro e w8 ⟨rfl, t8⟩
            go_wp2_with fail
            go_ret
            exact ⟨rfl, KE1.trans t8⟩
          have o1 : ¬ (C : Int) = 8 := by omega
          have o1' : ((C : Int) == 8) = false := by simpa using o1
          rw [if_neg hC8] at hck2
          go_wp2_with fail
          refine hck2.mono ?_
          rintro e w8 ⟨rfl, t8⟩
          have KA8 : Kept w8 ((w8.alloc (.cells #[.bool false, .int .i64 (j : Int), .int .i64 0] 40)).alloc (.cells #[.int .i64 1, .int .i64 1, .int .i64 0, .int .i64 0, .slice none 0 0, .int .i64 7, .int .i64 0, .int .i64 0, .int .i64 0, .slice (some ⟨w8.heap.size, 0, none⟩) 1 1] 32)) := ((Kept.refl w8).alloc _).alloc _
          have KT8 := t8.trans KA8
          have r2 : w8.cell? ⟨sb, 2, none⟩ = some (.slice (some ⟨g, 0, none⟩) j2 tc) := t8.cell v2
          have HTA : Hid (TM w.heap.size ((w8.alloc (.cells #[.bool false, .int .i64 (j : Int), .int .i64 0] 40)).alloc (.cells #[.int .i64 1, .int .i64 1, .int .i64 0, .int .i64 0, .slice none 0 0, .int .i64 7, .int .i64 0, .int .i64 0, .int .i64 0, .slice (some ⟨w8.heap.size, 0, none⟩) 1 1] 32)) g tc es I (.slice (some ⟨g7, 0, none⟩) 3 c7)) := HTE1.out.kept KT8
          have r4 : ((w8.alloc (.cells #[.bool false, .int .i64 (j : Int), .int .i64 0] 40)).alloc (.cells #[.int .i64 1, .int .i64 1, .int .i64 0, .int .i64 0, .slice none 0 0, .int .i64 7, .int .i64 0, .int .i64 0, .int .i64 0, .slice (some ⟨w8.heap.size, 0, none⟩) 1 1] 32)).cell? ⟨g, I * 5 + 4, none⟩ = some (.slice (some ⟨g7, 0, none⟩) 3 c7) := by rw [HTA.out.row.cellAt (I * 5 + 4) (by omega), List.getElem?_set_self (by rw [flatE_len]; omega)]
          have rf : ((w8.alloc (.cells #[.bool false, .int .i64 (j : Int), .int .i64 0] 40)).alloc (.cells #[.int .i64 1, .int .i64 1, .int .i64 0, .int .i64 0, .slice none 0 0, .int .i64 7, .int .i64 0, .int .i64 0, .int .i64 0, .slice (some ⟨w8.heap.size, 0, none⟩) 1 1] 32)).frozen? ⟨g, I * 5 + 4, none⟩ = false := HTA.out.row.frozenAt (I * 5 + 4)
          have tg := turn_set w8 g (I * 5 + 4) (.slice (some ⟨w8.heap.size + 1, 0, none⟩) 2 2)
          have gl8 : g < w8.heap.size := by
            have h1 := t8.size
            have h2 : (w7.setCell ⟨g, I * 5 + 4, none⟩ (.slice (some ⟨g7, 0, none⟩) 3 c7)).heap.size = w7.heap.size := by simp [World.setCell]
            have h3 := (World.ownsRow.lt HT7.out.row g rfl).2
            omega
          have hsz8 : (w8.setCell ⟨g, I * 5 + 4, none⟩ (.slice (some ⟨w8.heap.size + 1, 0, none⟩) 2 2)).heap.size = w8.heap.size := by simp [World.setCell]
          have KAS : Kept (w8.setCell ⟨g, I * 5 + 4, none⟩ (.slice (some ⟨w8.heap.size + 1, 0, none⟩) 2 2)) (((w8.setCell ⟨g, I * 5 + 4, none⟩ (.slice (some ⟨w8.heap.size + 1, 0, none⟩) 2 2)).alloc (.cells #[.bool false, .int .i64 (j : Int), .int .i64 0] 40)).alloc (.cells #[.int .i64 1, .int .i64 1, .int .i64 0, .int .i64 0, .slice none 0 0, .int .i64 7, .int .i64 0, .int .i64 0, .int .i64 0, .slice (some ⟨w8.heap.size, 0, none⟩) 1 1] 32)) := ((Kept.refl _).alloc _).alloc _
          have HA2 : Hid (AtT (((w8.setCell ⟨g, I * 5 + 4, none⟩ (.slice (some ⟨w8.heap.size + 1, 0, none⟩) 2 2)).alloc (.cells #[.bool false, .int .i64 (j : Int), .int .i64 0] 40)).alloc (.cells #[.int .i64 1, .int .i64 1, .int .i64 0, .int .i64 0, .slice none 0 0, .int .i64 7, .int .i64 0, .int .i64 0, .int .i64 0, .slice (some ⟨w8.heap.size, 0, none⟩) 1 1] 32)) (some ⟨g, 0, none⟩) (manT j2 I (slPr (j : Int)))) := by
            have hs := sel_at (w8.setCell ⟨g, I * 5 + 4, none⟩ (.slice (some ⟨w8.heap.size + 1, 0, none⟩) 2 2)) (j : Int) (Turns.refl (fun _ => False) _) (fun x => x) (fun x => x)
            rw [hsz8] at hs
            have h := (((HTE1.out.kept t8).set (.slice (some ⟨w8.heap.size + 1, 0, none⟩) 2 2)).kept KAS).at (p := slPr (j : Int)) he0 hs (by simp [slPr])
            rw [HN.out, HE0.out] at h
            exact h
          have HXE2 : Hid (Box w.heap.size (((w8.setCell ⟨g, I * 5 + 4, none⟩ (.slice (some ⟨w8.heap.size + 1, 0, none⟩) 2 2)).alloc (.cells #[.bool false, .int .i64 (j : Int), .int .i64 0] 40)).alloc (.cells #[.int .i64 1, .int .i64 1, .int .i64 0, .int .i64 0, .slice none 0 0, .int .i64 7, .int .i64 0, .int .i64 0, .int .i64 0, .slice (some ⟨w8.heap.size, 0, none⟩) 1 1] 32)) 26 sb [.int .i64 (C : Int), .slice ca j cc, .slice (some ⟨g, 0, none⟩) j2 tc]) := ((HXE1.out.kept t8).turns tg (fun e2 => n3 e2.symm)).kept KAS
          have HHE2 : Hid (HRow w.heap.size (((w8.setCell ⟨g, I * 5 + 4, none⟩ (.slice (some ⟨w8.heap.size + 1, 0, none⟩) 2 2)).alloc (.cells #[.bool false, .int .i64 (j : Int), .int .i64 0] 40)).alloc (.cells #[.int .i64 1, .int .i64 1, .int .i64 0, .int .i64 0, .slice none 0 0, .int .i64 7, .int .i64 0, .int .i64 0, .int .i64 0, .slice (some ⟨w8.heap.size, 0, none⟩) 1 1] 32)) (.slice ca j cc) (chs j)) := ((HHE1.out.turns t8.turns (fun _ _ x => x)).turns tg (fun q hq e2 => HM5.out.d4 q hq (by rw [e2]; rfl))).turns KAS.turns (fun _ _ x => x)
          have KE2 : Kept w (((w8.setCell ⟨g, I * 5 + 4, none⟩ (.slice (some ⟨w8.heap.size + 1, 0, none⟩) 2 2)).alloc (.cells #[.bool false, .int .i64 (j : Int), .int .i64 0] 40)).alloc (.cells #[.int .i64 1, .int .i64 1, .int .i64 0, .int .i64 0, .slice none 0 0, .int .i64 7, .int .i64 0, .int .i64 0, .int .i64 0, .slice (some ⟨w8.heap.size, 0, none⟩) 1 1] 32)) := (tg.kept (KE1.trans t8) (fun q hq => by omega)).trans KAS
          have hck3 := scheck_any (C : Int) ca (some ⟨g, 0, none⟩) cc tc (chs j) (manT j2 I (slPr (j : Int))) (((w8.setCell ⟨g, I * 5 + 4, none⟩ (.slice (some ⟨w8.heap.size + 1, 0, none⟩) 2 2)).alloc (.cells #[.bool false, .int .i64 (j : Int), .int .i64 0] 40)).alloc (.cells #[.int .i64 1, .int .i64 1, .int .i64 0, .int .i64 0, .slice none 0 0, .int .i64 7, .int .i64 0, .int .i64 0, .int .i64 0, .slice (some ⟨w8.heap.size, 0, none⟩) 1 1] 32)) (HR.out.kept KE2) HHE2.out.at HA2.out (man_ok _ _ _ (by simp [slPr]) (by simp [slPr, oRun])) (by rw [hml]; omega) (by rw [chs_len]; omega)
          have hcs3 : checkS (C : Int) (chs j) (manT j2 I (slPr (j : Int))) = (I, if j = 8 then 1 else 3) := man_check2 j2 j C I (slPr (j : Int)) _ (by omega) (by omega) (by omega) hIj (by split <;> omega) (sl_e ⟨C, by omega⟩ ⟨j, by omega⟩)
          rw [hcs3, chs_len, hml] at hck3
          have u0 : (((w8.setCell ⟨g, I * 5 + 4, none⟩ (.slice (some ⟨w8.heap.size + 1, 0, none⟩) 2 2)).alloc (.cells #[.bool false, .int .i64 (j : Int), .int .i64 0] 40)).alloc (.cells #[.int .i64 1, .int .i64 1, .int .i64 0, .int .i64 0, .slice none 0 0, .int .i64 7, .int .i64 0, .int .i64 0, .int .i64 0, .slice (some ⟨w8.heap.size, 0, none⟩) 1 1] 32)).cell? ⟨sb, 0, none⟩ = some (.int .i64 (C : Int)) := HXE2.out.cell 0 (by simp)
          have u1 : (((w8.setCell ⟨g, I * 5 + 4, none⟩ (.slice (some ⟨w8.heap.size + 1, 0, none⟩) 2 2)).alloc (.cells #[.bool false, .int .i64 (j : Int), .int .i64 0] 40)).alloc (.cells #[.int .i64 1, .int .i64 1, .int .i64 0, .int .i64 0, .slice none 0 0, .int .i64 7, .int .i64 0, .int .i64 0, .int .i64 0, .slice (some ⟨w8.heap.size, 0, none⟩) 1 1] 32)).cell? ⟨sb, 1, none⟩ = some (.slice ca j cc) := HXE2.out.cell 1 (by simp)
          have u2 : (((w8.setCell ⟨g, I * 5 + 4, none⟩ (.slice (some ⟨w8.heap.size + 1, 0, none⟩) 2 2)).alloc (.cells #[.bool false, .int .i64 (j : Int), .int .i64 0] 40)).alloc (.cells #[.int .i64 1, .int .i64 1, .int .i64 0, .int .i64 0, .slice none 0 0, .int .i64 7, .int .i64 0, .int .i64 0, .int .i64 0, .slice (some ⟨w8.heap.size, 0, none⟩) 1 1] 32)).cell? ⟨sb, 2, none⟩ = some (.slice (some ⟨g, 0, none⟩) j2 tc) := HXE2.out.cell 2 (by simp)
          have r2a : ((w8.alloc (.cells #[.bool false, .int .i64 (j : Int), .int .i64 0] 40)).alloc (.cells #[.int .i64 1, .int .i64 1, .int .i64 0, .int .i64 0, .slice none 0 0, .int .i64 7, .int .i64 0, .int .i64 0, .int .i64 0, .slice (some ⟨w8.heap.size, 0, none⟩) 1 1] 32)).cell? ⟨sb, 2, none⟩ = some (.slice (some ⟨g, 0, none⟩) j2 tc) := KA8.cell r2
          clear hck2 v0 v1 v2 hcs3
          by_cases hj8 : j = 8
          · have o2' : ((j : Int) == 8) = true := by simp [hj8]
            rw [if_pos hj8] at hck3
            clear hj8
            go_wp2_with fail
            refine hck3.mono ?_
            rintro e w9 ⟨rfl, t9⟩
            go_wp2_with fail
            go_ret
            exact ⟨rfl, KE2.trans t9⟩
          have o2 : ¬ (j : Int) = 8 := by omega
          have o2' : ((j : Int) == 8) = false := by simpa using o2
          rw [if_neg hj8] at hck3
          go_wp2_with fail
          refine hck3.mono ?_
          rintro e w9 ⟨rfl, t9⟩
          go_wp2_with fail
          go_ret
          exact ⟨rfl, KE2.trans t9⟩
end Go.Proofs.YtockpcoegdaipabDoor
