/- The reference's ParseOp, of a select. -/
import Derived.Test.YtiiddfahpddffaaDoorRLai
import Derived.Test.YtiiddfahpddffaaDoorPar
import Derived.Test.YtiiddfahpddffaaDoorRChk7
import Derived.Test.YtiiddfahpddffaaDoorRPar
namespace Go.Proofs.YtiiddfahpddffaaDoor
open Go.RowKit


/-- What is read of the cases: those ahead, and the rest. -/
def gl (l : List CaseD) (x : List CaseD × Int) : List CaseD × Int := if x.2 = 0 then (l ++ x.1, 0) else ([], x.2)
theorem gl_cons (l : List CaseD) (c : CaseD) (x : List CaseD × Int) : gl l (consC c x) = gl (l ++ [c]) x := by
  unfold gl consC
  by_cases h : x.2 = 0 <;> simp [h]
/-- Where the reading of cases stands: e is its error, j the place, l what was read. -/
def Inv7 (s : List UInt8) (ws : List (List UInt8)) (wt e : Int) (j : Nat) (l : List CaseD) : Prop :=
  (¬ e = 0 ∧ parseD s = (zeroD, e)) ∨ (e = 0 ∧ j ≤ ws.length ∧ areB (ws.drop j) = true ∧ ∀ x, gl l (casesOf (ws.drop j)) = x → parseD s = checked (if x.2 = 0 then (⟨7, 0, 0, wt, x.1⟩, 0) else (zeroD, x.2)))
theorem inv7_bad {s : List UInt8} {ws : List (List UInt8)} {wt e1 : Int} {j : Nat} {l : List CaseD} (h : Inv7 s ws wt 0 j l) (he : ¬ e1 = 0) (hc : casesOf (ws.drop j) = ([], e1)) : parseD s = (zeroD, e1) := by
  rcases h with h | h
  · exact absurd rfl h.1
  · have := h.2.2.2 ([], e1) (by rw [hc]; simp [gl, he])
    rw [this]
    simp [checked, he]
theorem inv7_next {s : List UInt8} {ws : List (List UInt8)} {wt : Int} {j k : Nat} {l : List CaseD} {c : CaseD} (h : Inv7 s ws wt 0 j l) (hk : k ≤ ws.length) (ha : areB (ws.drop k) = true) (hc : casesOf (ws.drop j) = consC c (casesOf (ws.drop k))) : Inv7 s ws wt 0 k (l ++ [c]) := by
  rcases h with h | h
  · exact absurd rfl h.1
  · refine .inr ⟨rfl, hk, ha, fun x hx => h.2.2.2 x ?_⟩
    rw [hc, gl_cons]
    exact hx
theorem inv7_end {s : List UInt8} {ws : List (List UInt8)} {wt : Int} {j : Nat} {l : List CaseD} (h : Inv7 s ws wt 0 j l) (hj : ¬ j < ws.length) : parseD s = checked (⟨7, 0, 0, wt, l.map (clC chan40)⟩, 0) := by
  rcases h with h | h
  · exact absurd rfl h.1
  · have := h.2.2.2 (l, 0) (by rw [List.drop_eq_nil_of_le (by omega)]; simp [casesOf, gl])
    rw [this]
    exact (checked_cl cl40 (⟨7, 0, 0, wt, l⟩, 0)).symm
structure Pc (w2 wr : World) (wt : Int) (sv : Value) (l : List CaseD) : Prop where
  op : Box w2.heap.size wr 24 w2.heap.size [.int .i64 7, .int .i64 0, .int .i64 0, .int .i64 wt, sv]
  row : CRow 50 w2.heap.size wr sv l
  far : ∀ q, sv.ownBlock = some q → w2.heap.size < q
  kept : Kept w2 wr
theorem Pc.app {w2 wr wa w' : World} {wt : Int} {sv : Value} {l l' : List CaseD} {g n c : Nat} {o1 o2 : Obj} (h : Pc w2 wr wt sv l) (ha : wa = (wr.alloc o1).alloc o2) (gr : wa.grownBy w' sv.ownBlock) (at5 : sv.ownBlock = some g ∨ (wr.alloc o1).heap.size < g) (r : CRow 50 w2.heap.size w' (.slice (some ⟨g, 0, none⟩) n c) l') :
    Pc w2 (w'.setCell ⟨w2.heap.size, 4, none⟩ (.slice (some ⟨g, 0, none⟩) n c)) wt (.slice (some ⟨g, 0, none⟩) n c) l' ∧ w'.cell? ⟨w2.heap.size, 4, none⟩ = some sv ∧ w'.frozen? ⟨w2.heap.size, 4, none⟩ = false ∧ w2.heap.size < w'.heap.size := by
  subst ha
  have hl := h.op.lt
  have t : Turns (fun k => sv.ownBlock = some k) wr w' := (((Turns.refl _ wr).alloc o1).alloc o2).trans (Turns.grown gr (fun k e => e))
  have b2 := h.op.turns t (fun e => by have := h.far _ e; omega)
  have hg : w2.heap.size < g := by
    rcases at5 with h1 | h1
    · exact h.far _ h1
    · have : (wr.alloc o1).heap.size = wr.heap.size + 1 := by simp
      omega
  have t2 := turn_set w' w2.heap.size 4 (.slice (some ⟨g, 0, none⟩) n c)
  refine ⟨⟨b2.set 4 _, r.turns t2 (fun q hq e => by simp [Value.ownBlock] at hq; omega), fun q hq => by simp [Value.ownBlock] at hq; omega, t2.kept (t.kept h.kept (fun i hi => (World.ownsRow.lt h.row i hi).1)) (fun i hi => by omega)⟩, b2.cell 4 (by simp), b2.frozen 4, b2.lt.2⟩
theorem map_snoc {l : List CaseD} {sd : Bool} {n m v : Int} (h : chan40 n = m) : l.map (clC chan40) ++ ([⟨sd, m, v⟩] : List CaseD) = (l ++ ([⟨sd, n, v⟩] : List CaseD)).map (clC chan40) := by subst h; simp [clC]
theorem cl_in {n : Int} (h1 : ¬ n < -1099511627776) (h2 : ¬ 1099511627776 < n) : chan40 n = n := by unfold chan40; rw [if_neg (by omega)]
theorem cl_out {n : Int} (h : n < -1099511627776 ∨ 1099511627776 < n) : chan40 n = -1 := by unfold chan40; rw [if_pos (by omega)]
set_option maxHeartbeats 8000000 in
set_option maxRecDepth 10000 in
theorem rparse_k7 (s x q : List UInt8) (r : List (List UInt8)) (hl : s.length ≤ 1000) (w : World) (hso : splitOf s = some (x :: q :: r)) (hk : kindOf x = 7) (hf : areB r = true) : RPar s w := by
  have hfit : fitsB (shapeOf 7) (x :: q :: r) = true := by
    unfold fitsB
    rw [if_neg (by simp [aheadN, shapeOf])]
    exact hf
  have HR : Hid (parseD s = checked (readD 7 (q :: r))) := by
    show _ = _
    have := parse_read hso (by rw [hk]; decide) (by rw [hk]; exact hfit)
    rw [hk] at this
    exact this
  have HWX : Hid (∀ t0 ∈ x :: q :: r, t0.length ≤ s.length) := splitOf_mem hso
  have hwl := splitOf_len hso
  have lq : q.length ≤ 100000 := by have := HWX.out q (by simp); omega
  obtain ⟨ws, hws⟩ : ∃ z, z = x :: q :: r := ⟨_, rfl⟩
  have HW2 : Hid (2 ≤ ws.length ∧ ws.drop 2 = r ∧ ws[1]? = some q ∧ ws[0]? = some x) := by
    show _ ∧ _
    rw [hws]
    exact ⟨by simp, rfl, rfl, rfl⟩
  have A0 := box_new w.heap.size w 24 [.int .i64 0, .int .i64 0, .int .i64 0, .int .i64 0, .slice none 0 0] (Nat.le_refl _) (by simp)
  have K0 := (Kept.refl w).alloc (.cells #[.int .i64 0, .int .i64 0, .int .i64 0, .int .i64 0, .slice none 0 0] 24)
  have hsp := rsplit_any s (by omega) (w.alloc (.cells #[.int .i64 0, .int .i64 0, .int .i64 0, .int .i64 0, .slice none 0 0] 24))
  rw [← hws] at hso hfit HWX hwl
  rw [hso, show splitE (some ws) = 0 from rfl, show splitR (some ws) = ws from rfl] at hsp
  clear hso hws
  have hw2 := HW2.out.1
  have hn0 : ¬ (ws.length : Int) = 0 := by omega
  have hn1 : ((ws.length : Int) == 0) = false := beq_eq_false_iff_ne.2 (by omega)
  unfold RPar
  go_enter Tryd.func21, Tryd.ntmps21
  go_wp2_with fail
  refine hsp.mono ?_
  rintro e w1 ⟨v1, rfl, r1, t1⟩
  have A1 := A0.kept t1
  have K1 := K0.trans t1
  obtain ⟨a1, c1, hv1, _, hat1⟩ := StrRow.view r1
  subst hv1
  obtain ⟨b, f, rfl, _⟩ := hat1.2 0 (by omega)
  have hx0 : w1.cell? ⟨b, f, none⟩ = some (.string (B x)) := atCell hat1 0 x HW2.out.2.2.2
  have HA1 : Hid (At w1 (some ⟨b, f, none⟩) ws.length ws) := hat1
  clear hat1 r1 hsp
  have b01 : (0 : Int) < (ws.length : Int) := by omega
  have b11 : (1 : Int) < (ws.length : Int) := by omega
  go_wp2_with fail
  refine (rkind_any x w1).mono ?_
  rintro e w2 ⟨rfl, t2⟩
  have A2 := A1.kept t2
  have K2 := K1.trans t2
  have hbl : b < w2.heap.size := by have := cell_lt hx0; have := t2.size; simp only at *; omega
  have hlt : w.heap.size < w2.heap.size := A2.lt.2
  rw [hk]
  clear hk hx0
  have HA2 : Hid (At w2 (some ⟨b, f, none⟩) ws.length ws) := HA1.out.kept t2
  have hx1 : w2.cell? ⟨b, f + 1, none⟩ = some (.string (B q)) := atCell HA2.out 1 q HW2.out.2.2.1
  have hla := rlaid_any 7 (by omega) (by omega) (some ⟨b, f, none⟩) c1 ws (w2.alloc (.cells #[.int .i64 7, .int .i64 0, .int .i64 0, .int .i64 0, .slice none 0 0] 24)) (HA2.out.kept ((Kept.refl w2).alloc _)) (by omega)
  rw [hfit] at hla
  clear hfit
  go_wp2_with fail
  refine hla.mono ?_
  rintro e w3 ⟨rfl, hw3⟩
  subst w3
  obtain ⟨n3, e3, hn3⟩ : ∃ n e, waitOf q = (n, e) := ⟨_, _, rfl⟩
  have hnu3 := rparseWait_any q lq (w2.alloc (.cells #[.int .i64 7, .int .i64 0, .int .i64 0, .int .i64 0, .slice none 0 0] 24))
  have H0 : Hid (Inv7 s ws n3 e3 2 []) := by
    show Inv7 _ _ _ _ _ _
    unfold Inv7
    have h := HR.out
    simp only [readD, hn3] at h
    by_cases he : e3 = 0
    · subst he
      refine .inr ⟨rfl, hw2, by rw [HW2.out.2.1]; exact hf, fun z hz => ?_⟩
      rw [HW2.out.2.1] at hz
      subst hz
      simp at h
      rw [h]
      unfold gl
      by_cases hc : (casesOf r).2 = 0 <;> simp [hc]
    · simp [he] at h
      exact .inl ⟨he, by rw [h]; simp [checked, he]⟩
  rw [hn3] at hnu3
  clear hn3 HR hf
  have M0 : Hid (Pc w2 (w2.alloc (.cells #[.int .i64 7, .int .i64 0, .int .i64 0, .int .i64 n3, .slice none 0 0] 24)) n3 (.slice none 0 0) []) := ⟨box_new w2.heap.size w2 24 [.int .i64 7, .int .i64 0, .int .i64 0, .int .i64 n3, .slice none 0 0] (Nat.le_refl _) (by simp), CRow.nil _ _ _, fun q hq => by simp [Value.ownBlock] at hq, (Kept.refl w2).alloc _⟩
  go_wp2_with fail
  refine hnu3.mono ?_
  rintro e w4 ⟨rfl, hw4⟩
  subst w4
  go_wp2_with fail
  clear hx1 hnu3 hla
  go_loopg [5, 7] ws.length (fun gk e i wr => ∃ (j : Nat) (ev : Int) (sv : Value) (l : List CaseD), e = .int .i64 ev ∧ i = .int .i64 j ∧ ws.length ≤ j + gk ∧ j ≤ ws.length + 3 ∧ Hid (Inv7 s ws n3 ev j l) ∧ Hid (l.length ≤ j) ∧ Hid (Pc w2 wr n3 sv (l.map (clC chan40))))
  case atStart => exact ⟨2, e3, _, [], rfl, rfl, by omega, by omega, H0, (by show _ ≤ _; simp), M0⟩
  case round =>
    obtain ⟨j, ev, sv, l, rfl, rfl, hg, hj3, HI, HL, HM⟩ := hrel
    have lo := HM.out.op.lt.2
    have AW := A2.kept HM.out.kept
    have KW := K2.trans HM.out.kept
    by_cases hj : j < ws.length
    · have b1 : (j : Int) < (ws.length : Int) := by omega
      by_cases hev : ev = 0
      · subst hev
        have b2 : (0 : Int) ≤ (j : Int) := by omega
        obtain ⟨g3, rfl⟩ : ∃ g, gk = g + 1 := ⟨gk - 1, by omega⟩
        have hbr : b < wr.heap.size := by have := HM.out.kept.size; omega
        have fo : wr.cell? ⟨w2.heap.size, 4, none⟩ = some sv := HM.out.op.cell 4 (by simp)
        have HAr : Hid (At wr (some ⟨b, f, none⟩) ws.length ws) := HA2.out.kept HM.out.kept
        obtain ⟨k, hkk⟩ : ∃ k, ws[j]? = some k := ⟨_, List.getElem?_eq_getElem hj⟩
        have hxk : wr.cell? ⟨b, f + j, none⟩ = some (.string (B k)) := atCell HAr.out j k hkk
        have HAB : Hid (areB (ws.drop j) = true) := by
          rcases HI.out with h | h
          · exact absurd rfl h.1
          · exact h.2.2.1
        have HKW : Hid (ws.getD j [] = k) := by show _ = _; rw [List.getD_eq_getElem?_getD, hkk]; rfl
        clear hkk
        have hl1 : (l.map (clC chan40)).length ≤ 1000000 := by rw [List.length_map]; have := HL.out; omega
        by_cases h1 : k = sendW
        · have hway := are_send hj (HKW.out.trans h1) HAB.out
          have hjn : j + 3 ≤ ws.length := hway.elim (fun h => h.1) (fun h => absurd h.2 (by simp))
          have hab2 : areB (ws.drop (j + 3)) = true := hway.elim (fun h => h.2) (fun h => absurd h.2 (by simp))
          obtain ⟨y1, hy1⟩ : ∃ y, ws[j + 1]? = some y := ⟨_, List.getElem?_eq_getElem (by omega)⟩
          have hx1 : wr.cell? ⟨b, f + (j + 1), none⟩ = some (.string (B y1)) := atCell HAr.out (j + 1) y1 hy1
          have ly1 : y1.length ≤ 100000 := by have := HWX.out y1 (List.mem_of_getElem? hy1); omega
          obtain ⟨y2, hy2⟩ : ∃ y, ws[j + 2]? = some y := ⟨_, List.getElem?_eq_getElem (by omega)⟩
          have hx2 : wr.cell? ⟨b, f + (j + 2), none⟩ = some (.string (B y2)) := atCell HAr.out (j + 2) y2 hy2
          have ly2 : y2.length ≤ 100000 := by have := HWX.out y2 (List.mem_of_getElem? hy2); omega
          have HJ : Hid (j + 3 ≤ ws.length ∧ areB (ws.drop (j + 3)) = true ∧ ws.drop j = sendW :: y1 :: y2 :: ws.drop (j + 3)) := by
            refine ⟨hjn, hab2, ?_⟩
            rw [drop_cons hj, HKW.out, h1, drop_cons (by omega), drop_cons (by omega), List.getD_eq_getElem?_getD, hy1, List.getD_eq_getElem?_getD, show j + 1 + 1 = j + 2 from rfl, hy2]
            rfl
          have e1 : ((B k).toList == [115, 101, 110, 100]) = true := by rw [B_is, h1]; rfl
          have b4 : (j : Int) + 2 < (ws.length : Int) := by omega
          clear hy2
          have b3 : (j : Int) + 1 < (ws.length : Int) := by omega
          clear hway hjn hab2 hy1 h1
          obtain ⟨n1, e1v, hn1v⟩ : ∃ n e, numOf y1 = (n, e) := ⟨_, _, rfl⟩
          have HN1 : Hid (numOf y1 = (n1, e1v)) := hn1v
          have hnu1 := rnumber_any y1 ly1 wr
          rw [hn1v] at hnu1
          clear hn1v
          go_wp2_with fail
          refine hnu1.mono ?_
          rintro e w4 ⟨rfl, hw4⟩
          subst w4
          by_cases hev : e1v = 0
          · subst hev
            by_cases hA : n1 < -1099511627776
            · have HCL : Hid (chan40 n1 = -1) := cl_out (.inl hA)
              obtain ⟨n2, e2, hn2⟩ : ∃ n e, numOf y2 = (n, e) := ⟨_, _, rfl⟩
              have HN2 : Hid (numOf y2 = (n2, e2)) := hn2
              have hnu2 := rnumber_any y2 ly2 (wr.alloc (.cells #[.bool true, .int .i64 (-1), .int .i64 0] 50))
              rw [hn2] at hnu2
              clear hn2
              go_wp2_with fail
              refine hnu2.mono ?_
              rintro e w4 ⟨rfl, hw4⟩
              subst w4
              have HX : Hid (Inv7 s ws n3 e2 (j + 3) (l ++ [⟨true, n1, n2⟩])) := by
                show Inv7 _ _ _ _ _ _
                by_cases he2 : e2 = 0
                · subst he2
                  exact inv7_next HI.out HJ.out.1 HJ.out.2.1 (by rw [HJ.out.2.2, casesOf_cons, HN1.out, if_pos rfl, if_pos rfl]; simp [HN2.out])
                · exact .inl ⟨he2, inv7_bad HI.out he2 (by rw [HJ.out.2.2, casesOf_cons, HN1.out, if_pos rfl, if_pos rfl]; simp [HN2.out, he2])⟩
              go_wp2_with (at_builtin; refine wpList_append_case kR _ (by rfl) _ _ rfl w2.heap.size sv (l.map (clC chan40)) true (-1) n2 (wr.alloc (.cells #[.bool true, .int .i64 (-1), .int .i64 n2] 50)) rfl (by rfl) (wr.heap.size + 1) (by simp) (by rfl) (HM.out.row.kept ((Kept.refl _).alloc _)) hl1 (le_alloc _ HM.out.kept.size) ?_; intro g5 c5 w5 R5 gr5 at5; have M5 := HM.out.app rfl gr5 at5 R5; obtain ⟨M5, z5, f5, s5⟩ := M5)
              go_roundg g3
              case rel =>
                rw [map_snoc HCL.out, List.length_map] at M5
                have M6 : Hid (Pc w2 (w5.setCell ⟨w2.heap.size, 4, none⟩ (.slice (some ⟨g5, 0, none⟩) (l.length + 1) c5)) n3 (.slice (some ⟨g5, 0, none⟩) (l.length + 1) c5) ((l ++ [(⟨true, n1, n2⟩ : CaseD)]).map (clC chan40))) := M5
                exact ⟨j + 3, e2, .slice (some ⟨g5, 0, none⟩) (l.length + 1) c5, l ++ [(⟨true, n1, n2⟩ : CaseD)], rfl, by go_num, by omega, by omega, HX, (by show _ ≤ _; have := HL.out; simp; omega), M6⟩
              case measure => omega
            · by_cases hB : 1099511627776 < n1
              · have HCL : Hid (chan40 n1 = -1) := cl_out (.inr hB)
                obtain ⟨n2, e2, hn2⟩ : ∃ n e, numOf y2 = (n, e) := ⟨_, _, rfl⟩
                have HN2 : Hid (numOf y2 = (n2, e2)) := hn2
                have hnu2 := rnumber_any y2 ly2 (wr.alloc (.cells #[.bool true, .int .i64 (-1), .int .i64 0] 50))
                rw [hn2] at hnu2
                clear hn2
                go_wp2_with fail
                refine hnu2.mono ?_
                rintro e w4 ⟨rfl, hw4⟩
                subst w4
                have HX : Hid (Inv7 s ws n3 e2 (j + 3) (l ++ [⟨true, n1, n2⟩])) := by
                  show Inv7 _ _ _ _ _ _
                  by_cases he2 : e2 = 0
                  · subst he2
                    exact inv7_next HI.out HJ.out.1 HJ.out.2.1 (by rw [HJ.out.2.2, casesOf_cons, HN1.out, if_pos rfl, if_pos rfl]; simp [HN2.out])
                  · exact .inl ⟨he2, inv7_bad HI.out he2 (by rw [HJ.out.2.2, casesOf_cons, HN1.out, if_pos rfl, if_pos rfl]; simp [HN2.out, he2])⟩
                go_wp2_with (at_builtin; refine wpList_append_case kR _ (by rfl) _ _ rfl w2.heap.size sv (l.map (clC chan40)) true (-1) n2 (wr.alloc (.cells #[.bool true, .int .i64 (-1), .int .i64 n2] 50)) rfl (by rfl) (wr.heap.size + 1) (by simp) (by rfl) (HM.out.row.kept ((Kept.refl _).alloc _)) hl1 (le_alloc _ HM.out.kept.size) ?_; intro g5 c5 w5 R5 gr5 at5; have M5 := HM.out.app rfl gr5 at5 R5; obtain ⟨M5, z5, f5, s5⟩ := M5)
                go_roundg g3
                case rel =>
                  rw [map_snoc HCL.out, List.length_map] at M5
                  have M6 : Hid (Pc w2 (w5.setCell ⟨w2.heap.size, 4, none⟩ (.slice (some ⟨g5, 0, none⟩) (l.length + 1) c5)) n3 (.slice (some ⟨g5, 0, none⟩) (l.length + 1) c5) ((l ++ [(⟨true, n1, n2⟩ : CaseD)]).map (clC chan40))) := M5
                  exact ⟨j + 3, e2, .slice (some ⟨g5, 0, none⟩) (l.length + 1) c5, l ++ [(⟨true, n1, n2⟩ : CaseD)], rfl, by go_num, by omega, by omega, HX, (by show _ ≤ _; have := HL.out; simp; omega), M6⟩
                case measure => omega
              · have HCL : Hid (chan40 n1 = n1) := cl_in hA hB
                obtain ⟨n2, e2, hn2⟩ : ∃ n e, numOf y2 = (n, e) := ⟨_, _, rfl⟩
                have HN2 : Hid (numOf y2 = (n2, e2)) := hn2
                have hnu2 := rnumber_any y2 ly2 (wr.alloc (.cells #[.bool true, .int .i64 n1, .int .i64 0] 50))
                rw [hn2] at hnu2
                clear hn2
                go_wp2_with fail
                refine hnu2.mono ?_
                rintro e w4 ⟨rfl, hw4⟩
                subst w4
                have HX : Hid (Inv7 s ws n3 e2 (j + 3) (l ++ [⟨true, n1, n2⟩])) := by
                  show Inv7 _ _ _ _ _ _
                  by_cases he2 : e2 = 0
                  · subst he2
                    exact inv7_next HI.out HJ.out.1 HJ.out.2.1 (by rw [HJ.out.2.2, casesOf_cons, HN1.out, if_pos rfl, if_pos rfl]; simp [HN2.out])
                  · exact .inl ⟨he2, inv7_bad HI.out he2 (by rw [HJ.out.2.2, casesOf_cons, HN1.out, if_pos rfl, if_pos rfl]; simp [HN2.out, he2])⟩
                go_wp2_with (at_builtin; refine wpList_append_case kR _ (by rfl) _ _ rfl w2.heap.size sv (l.map (clC chan40)) true n1 n2 (wr.alloc (.cells #[.bool true, .int .i64 n1, .int .i64 n2] 50)) rfl (by rfl) (wr.heap.size + 1) (by simp) (by rfl) (HM.out.row.kept ((Kept.refl _).alloc _)) hl1 (le_alloc _ HM.out.kept.size) ?_; intro g5 c5 w5 R5 gr5 at5; have M5 := HM.out.app rfl gr5 at5 R5; obtain ⟨M5, z5, f5, s5⟩ := M5)
                go_roundg g3
                case rel =>
                  rw [map_snoc HCL.out, List.length_map] at M5
                  have M6 : Hid (Pc w2 (w5.setCell ⟨w2.heap.size, 4, none⟩ (.slice (some ⟨g5, 0, none⟩) (l.length + 1) c5)) n3 (.slice (some ⟨g5, 0, none⟩) (l.length + 1) c5) ((l ++ [(⟨true, n1, n2⟩ : CaseD)]).map (clC chan40))) := M5
                  exact ⟨j + 3, e2, .slice (some ⟨g5, 0, none⟩) (l.length + 1) c5, l ++ [(⟨true, n1, n2⟩ : CaseD)], rfl, by go_num, by omega, by omega, HX, (by show _ ≤ _; have := HL.out; simp; omega), M6⟩
                case measure => omega
          · have HP : Hid (parseD s = (zeroD, e1v)) := inv7_bad HI.out hev (by rw [HJ.out.2.2, casesOf_cons, HN1.out, if_neg hev])
            have hne : (e1v != 0) = true := by simp [hev]
            have hev2 : (e1v == 0) = false := by simp [hev]
            clear hev
            have p0 : (wr).cell? ⟨w.heap.size, 0, none⟩ = some (.int .i64 0) := AW.cell 0 (by simp)
            have p1 : (wr).cell? ⟨w.heap.size, 1, none⟩ = some (.int .i64 0) := AW.cell 1 (by simp)
            have p2 : (wr).cell? ⟨w.heap.size, 2, none⟩ = some (.int .i64 0) := AW.cell 2 (by simp)
            have p3 : (wr).cell? ⟨w.heap.size, 3, none⟩ = some (.int .i64 0) := AW.cell 3 (by simp)
            have p4 : (wr).cell? ⟨w.heap.size, 4, none⟩ = some (.slice none 0 0) := AW.cell 4 (by simp)
            have pf0 := AW.frozen 0
            have pf1 := AW.frozen 1
            have pf2 := AW.frozen 2
            have pf3 := AW.frozen 3
            have pf4 := AW.frozen 4
            have pl := AW.lt.2
            go_wp2_with fail
            (try simp only [Exit.inBlock, Exit.then])
            refine bodyPost_ret (v := .tuple #[.agg #[.int .i64 0, .int .i64 0, .int .i64 0, .int .i64 0, .slice none 0 0], .int .i64 e1v]) ?_ rfl ⟨.slice none 0 0, by rw [HP.out] <;> rfl, by rw [HP.out]; exact CRow.nil _ _ _, ((turn_set5 (wr) w.heap.size (.int .i64 0) (.int .i64 0) (.int .i64 0) (.int .i64 0) (.slice none 0 0)).kept KW (fun i hi => by omega))⟩
            rw [results_cell_tmp rfl]
            go_simp
        · by_cases h2 : k = recvW
          · have hway := are_recv hj (HKW.out.trans h2) HAB.out
            have hjn : j + 2 ≤ ws.length := hway.elim (fun h => h.1) (fun h => absurd h.2 (by simp))
            have hab2 : areB (ws.drop (j + 2)) = true := hway.elim (fun h => h.2) (fun h => absurd h.2 (by simp))
            obtain ⟨y1, hy1⟩ : ∃ y, ws[j + 1]? = some y := ⟨_, List.getElem?_eq_getElem (by omega)⟩
            have hx1 : wr.cell? ⟨b, f + (j + 1), none⟩ = some (.string (B y1)) := atCell HAr.out (j + 1) y1 hy1
            have ly1 : y1.length ≤ 100000 := by have := HWX.out y1 (List.mem_of_getElem? hy1); omega
            have HJ : Hid (j + 2 ≤ ws.length ∧ areB (ws.drop (j + 2)) = true ∧ ws.drop j = recvW :: y1 :: ws.drop (j + 2)) := by
              refine ⟨hjn, hab2, ?_⟩
              rw [drop_cons hj, HKW.out, h2, drop_cons (by omega), List.getD_eq_getElem?_getD, hy1]
              rfl
            have e1 : ((B k).toList == [115, 101, 110, 100]) = false := by rw [B_is, h2]; rfl
            have b3 : (j : Int) + 1 < (ws.length : Int) := by omega
            clear hway hjn hab2 hy1 h1 h2
            obtain ⟨n1, e1v, hn1v⟩ : ∃ n e, numOf y1 = (n, e) := ⟨_, _, rfl⟩
            have HN1 : Hid (numOf y1 = (n1, e1v)) := hn1v
            have hnu1 := rnumber_any y1 ly1 wr
            rw [hn1v] at hnu1
            clear hn1v
            go_wp2_with fail
            refine hnu1.mono ?_
            rintro e w4 ⟨rfl, hw4⟩
            subst w4
            by_cases hev : e1v = 0
            · subst hev
              by_cases hA : n1 < -1099511627776
              · have HCL : Hid (chan40 n1 = -1) := cl_out (.inl hA)
                have HX : Hid (Inv7 s ws n3 0 (j + 2) (l ++ [⟨false, n1, 0⟩])) := inv7_next HI.out HJ.out.1 HJ.out.2.1 (by rw [HJ.out.2.2, casesOf_cons, HN1.out, if_pos rfl, if_neg (by decide)])
                go_wp2_with (at_builtin; refine wpList_append_case kR _ (by rfl) _ _ rfl w2.heap.size sv (l.map (clC chan40)) false (-1) 0 (wr.alloc (.cells #[.bool false, .int .i64 (-1), .int .i64 0] 50)) rfl (by rfl) (wr.heap.size + 1) (by simp) (by rfl) (HM.out.row.kept ((Kept.refl _).alloc _)) hl1 (le_alloc _ HM.out.kept.size) ?_; intro g5 c5 w5 R5 gr5 at5; have M5 := HM.out.app rfl gr5 at5 R5; obtain ⟨M5, z5, f5, s5⟩ := M5)
                go_roundg g3
                case rel =>
                  rw [map_snoc HCL.out, List.length_map] at M5
                  have M6 : Hid (Pc w2 (w5.setCell ⟨w2.heap.size, 4, none⟩ (.slice (some ⟨g5, 0, none⟩) (l.length + 1) c5)) n3 (.slice (some ⟨g5, 0, none⟩) (l.length + 1) c5) ((l ++ [(⟨false, n1, 0⟩ : CaseD)]).map (clC chan40))) := M5
                  exact ⟨j + 2, 0, .slice (some ⟨g5, 0, none⟩) (l.length + 1) c5, l ++ [(⟨false, n1, 0⟩ : CaseD)], rfl, by go_num, by omega, by omega, HX, (by show _ ≤ _; have := HL.out; simp; omega), M6⟩
                case measure => omega
              · by_cases hB : 1099511627776 < n1
                · have HCL : Hid (chan40 n1 = -1) := cl_out (.inr hB)
                  have HX : Hid (Inv7 s ws n3 0 (j + 2) (l ++ [⟨false, n1, 0⟩])) := inv7_next HI.out HJ.out.1 HJ.out.2.1 (by rw [HJ.out.2.2, casesOf_cons, HN1.out, if_pos rfl, if_neg (by decide)])
                  go_wp2_with (at_builtin; refine wpList_append_case kR _ (by rfl) _ _ rfl w2.heap.size sv (l.map (clC chan40)) false (-1) 0 (wr.alloc (.cells #[.bool false, .int .i64 (-1), .int .i64 0] 50)) rfl (by rfl) (wr.heap.size + 1) (by simp) (by rfl) (HM.out.row.kept ((Kept.refl _).alloc _)) hl1 (le_alloc _ HM.out.kept.size) ?_; intro g5 c5 w5 R5 gr5 at5; have M5 := HM.out.app rfl gr5 at5 R5; obtain ⟨M5, z5, f5, s5⟩ := M5)
                  go_roundg g3
                  case rel =>
                    rw [map_snoc HCL.out, List.length_map] at M5
                    have M6 : Hid (Pc w2 (w5.setCell ⟨w2.heap.size, 4, none⟩ (.slice (some ⟨g5, 0, none⟩) (l.length + 1) c5)) n3 (.slice (some ⟨g5, 0, none⟩) (l.length + 1) c5) ((l ++ [(⟨false, n1, 0⟩ : CaseD)]).map (clC chan40))) := M5
                    exact ⟨j + 2, 0, .slice (some ⟨g5, 0, none⟩) (l.length + 1) c5, l ++ [(⟨false, n1, 0⟩ : CaseD)], rfl, by go_num, by omega, by omega, HX, (by show _ ≤ _; have := HL.out; simp; omega), M6⟩
                  case measure => omega
                · have HCL : Hid (chan40 n1 = n1) := cl_in hA hB
                  have HX : Hid (Inv7 s ws n3 0 (j + 2) (l ++ [⟨false, n1, 0⟩])) := inv7_next HI.out HJ.out.1 HJ.out.2.1 (by rw [HJ.out.2.2, casesOf_cons, HN1.out, if_pos rfl, if_neg (by decide)])
                  go_wp2_with (at_builtin; refine wpList_append_case kR _ (by rfl) _ _ rfl w2.heap.size sv (l.map (clC chan40)) false n1 0 (wr.alloc (.cells #[.bool false, .int .i64 n1, .int .i64 0] 50)) rfl (by rfl) (wr.heap.size + 1) (by simp) (by rfl) (HM.out.row.kept ((Kept.refl _).alloc _)) hl1 (le_alloc _ HM.out.kept.size) ?_; intro g5 c5 w5 R5 gr5 at5; have M5 := HM.out.app rfl gr5 at5 R5; obtain ⟨M5, z5, f5, s5⟩ := M5)
                  go_roundg g3
                  case rel =>
                    rw [map_snoc HCL.out, List.length_map] at M5
                    have M6 : Hid (Pc w2 (w5.setCell ⟨w2.heap.size, 4, none⟩ (.slice (some ⟨g5, 0, none⟩) (l.length + 1) c5)) n3 (.slice (some ⟨g5, 0, none⟩) (l.length + 1) c5) ((l ++ [(⟨false, n1, 0⟩ : CaseD)]).map (clC chan40))) := M5
                    exact ⟨j + 2, 0, .slice (some ⟨g5, 0, none⟩) (l.length + 1) c5, l ++ [(⟨false, n1, 0⟩ : CaseD)], rfl, by go_num, by omega, by omega, HX, (by show _ ≤ _; have := HL.out; simp; omega), M6⟩
                  case measure => omega
            · have HP : Hid (parseD s = (zeroD, e1v)) := inv7_bad HI.out hev (by rw [HJ.out.2.2, casesOf_cons, HN1.out, if_neg hev])
              have hne : (e1v != 0) = true := by simp [hev]
              have hev2 : (e1v == 0) = false := by simp [hev]
              clear hev
              have p0 : (wr).cell? ⟨w.heap.size, 0, none⟩ = some (.int .i64 0) := AW.cell 0 (by simp)
              have p1 : (wr).cell? ⟨w.heap.size, 1, none⟩ = some (.int .i64 0) := AW.cell 1 (by simp)
              have p2 : (wr).cell? ⟨w.heap.size, 2, none⟩ = some (.int .i64 0) := AW.cell 2 (by simp)
              have p3 : (wr).cell? ⟨w.heap.size, 3, none⟩ = some (.int .i64 0) := AW.cell 3 (by simp)
              have p4 : (wr).cell? ⟨w.heap.size, 4, none⟩ = some (.slice none 0 0) := AW.cell 4 (by simp)
              have pf0 := AW.frozen 0
              have pf1 := AW.frozen 1
              have pf2 := AW.frozen 2
              have pf3 := AW.frozen 3
              have pf4 := AW.frozen 4
              have pl := AW.lt.2
              go_wp2_with fail
              (try simp only [Exit.inBlock, Exit.then])
              refine bodyPost_ret (v := .tuple #[.agg #[.int .i64 0, .int .i64 0, .int .i64 0, .int .i64 0, .slice none 0 0], .int .i64 e1v]) ?_ rfl ⟨.slice none 0 0, by rw [HP.out] <;> rfl, by rw [HP.out]; exact CRow.nil _ _ _, ((turn_set5 (wr) w.heap.size (.int .i64 0) (.int .i64 0) (.int .i64 0) (.int .i64 0) (.slice none 0 0)).kept KW (fun i hi => by omega))⟩
              rw [results_cell_tmp rfl]
              go_simp
          · exact absurd (are_not hj (by rw [HKW.out]; exact h1) (by rw [HKW.out]; exact h2) HAB.out) (by simp)
      · have hev2 : (ev == 0) = false := by simp [hev]
        have HP : Hid (parseD s = (zeroD, ev)) := by
          rcases HI.out with h | h
          · exact h.2
          · exact absurd h.1 hev
        have hne : (ev != 0) = true := by simp [hev]
        clear hev
        have p0 : (wr).cell? ⟨w.heap.size, 0, none⟩ = some (.int .i64 0) := AW.cell 0 (by simp)
        have p1 : (wr).cell? ⟨w.heap.size, 1, none⟩ = some (.int .i64 0) := AW.cell 1 (by simp)
        have p2 : (wr).cell? ⟨w.heap.size, 2, none⟩ = some (.int .i64 0) := AW.cell 2 (by simp)
        have p3 : (wr).cell? ⟨w.heap.size, 3, none⟩ = some (.int .i64 0) := AW.cell 3 (by simp)
        have p4 : (wr).cell? ⟨w.heap.size, 4, none⟩ = some (.slice none 0 0) := AW.cell 4 (by simp)
        have pf0 := AW.frozen 0
        have pf1 := AW.frozen 1
        have pf2 := AW.frozen 2
        have pf3 := AW.frozen 3
        have pf4 := AW.frozen 4
        have pl := AW.lt.2
        go_wp2_with fail
        (try simp only [Exit.inBlock, Exit.then])
        refine bodyPost_ret (v := .tuple #[.agg #[.int .i64 0, .int .i64 0, .int .i64 0, .int .i64 0, .slice none 0 0], .int .i64 ev]) ?_ rfl ⟨.slice none 0 0, by rw [HP.out] <;> rfl, by rw [HP.out]; exact CRow.nil _ _ _, ((turn_set5 (wr) w.heap.size (.int .i64 0) (.int .i64 0) (.int .i64 0) (.int .i64 0) (.slice none 0 0)).kept KW (fun i hi => by omega))⟩
        rw [results_cell_tmp rfl]
        go_simp
    · have b1 : ¬ (j : Int) < (ws.length : Int) := by omega
      by_cases hev : ev = 0
      · subst hev
        have HC0 := inv7_end HI.out hj
        obtain ⟨lc, hlc⟩ : ∃ z, l.map (clC chan40) = z := ⟨_, rfl⟩
        have hlcl : lc.length ≤ 1000000 := by rw [← hlc, List.length_map]; have := HL.out; omega
        rw [hlc] at HC0 HM
        have HC : Hid (parseD s = checked (⟨7, 0, 0, n3, lc⟩, 0)) := HC0
        clear HC0 hlc
        obtain ⟨ay, cy, hsv, _, hay⟩ := HM.out.row.at
        subst hsv
        have HAY : Hid (AtC wr ay lc.length lc) := hay
        clear hay
        have O4 := HM.out.op
        have oo0 : (wr).cell? ⟨w2.heap.size, 0, none⟩ = some (.int .i64 7) := O4.cell 0 (by simp)
        have oo1 : (wr).cell? ⟨w2.heap.size, 1, none⟩ = some (.int .i64 0) := O4.cell 1 (by simp)
        have oo2 : (wr).cell? ⟨w2.heap.size, 2, none⟩ = some (.int .i64 0) := O4.cell 2 (by simp)
        have oo3 : (wr).cell? ⟨w2.heap.size, 3, none⟩ = some (.int .i64 n3) := O4.cell 3 (by simp)
        have oo4 : (wr).cell? ⟨w2.heap.size, 4, none⟩ = some (.slice ay lc.length cy) := O4.cell 4 (by simp)
        have ool := O4.lt.2
        have hck0 := rcheck_any 7 0 0 n3 ay lc.length cy lc (wr) HAY.out (by omega)
        by_cases hck : checkD ⟨7, 0, 0, n3, lc⟩ = 0
        · rw [hck] at hck0
          have HP : Hid (parseD s = (⟨7, 0, 0, n3, lc⟩, 0)) := by show _ = _; rw [HC.out]; exact checked_ok hck
          clear hck
          go_wp2_with fail
          refine hck0.mono ?_
          rintro e w5 ⟨rfl, t5⟩
          have A5 := AW.kept t5
          have K5 := KW.trans t5
          have O5 := O4.kept t5
          have o0 : (w5).cell? ⟨w2.heap.size, 0, none⟩ = some (.int .i64 7) := O5.cell 0 (by simp)
          have o1 : (w5).cell? ⟨w2.heap.size, 1, none⟩ = some (.int .i64 0) := O5.cell 1 (by simp)
          have o2 : (w5).cell? ⟨w2.heap.size, 2, none⟩ = some (.int .i64 0) := O5.cell 2 (by simp)
          have o3 : (w5).cell? ⟨w2.heap.size, 3, none⟩ = some (.int .i64 n3) := O5.cell 3 (by simp)
          have o4 : (w5).cell? ⟨w2.heap.size, 4, none⟩ = some (.slice ay lc.length cy) := O5.cell 4 (by simp)
          have ol := O5.lt.2
          have p0 : (w5).cell? ⟨w.heap.size, 0, none⟩ = some (.int .i64 0) := A5.cell 0 (by simp)
          have p1 : (w5).cell? ⟨w.heap.size, 1, none⟩ = some (.int .i64 0) := A5.cell 1 (by simp)
          have p2 : (w5).cell? ⟨w.heap.size, 2, none⟩ = some (.int .i64 0) := A5.cell 2 (by simp)
          have p3 : (w5).cell? ⟨w.heap.size, 3, none⟩ = some (.int .i64 0) := A5.cell 3 (by simp)
          have p4 : (w5).cell? ⟨w.heap.size, 4, none⟩ = some (.slice none 0 0) := A5.cell 4 (by simp)
          have pf0 := A5.frozen 0
          have pf1 := A5.frozen 1
          have pf2 := A5.frozen 2
          have pf3 := A5.frozen 3
          have pf4 := A5.frozen 4
          have pl := A5.lt.2
          go_wp2_with fail
          (try simp only [Exit.inBlock, Exit.then])
          refine bodyPost_ret (v := .tuple #[.agg #[.int .i64 7, .int .i64 0, .int .i64 0, .int .i64 n3, .slice ay lc.length cy], .int .i64 0]) ?_ rfl ⟨.slice ay lc.length cy, by rw [HP.out] <;> rfl, by rw [HP.out]; exact crow_base ((CRow.kept HM.out.row t5).turns (turn_set5 w5 w.heap.size (.int .i64 7) (.int .i64 0) (.int .i64 0) (.int .i64 n3) (.slice ay lc.length cy)) (fun q hq e => by have := HM.out.far q hq; omega)) (by omega), (turn_set5 w5 w.heap.size (.int .i64 7) (.int .i64 0) (.int .i64 0) (.int .i64 n3) (.slice ay lc.length cy)).kept K5 (fun i hi => by omega)⟩
          rw [results_cell_tmp rfl]
          go_simp
        · have hne2 : (checkD ⟨7, 0, 0, n3, lc⟩ != 0) = true := by simp [hck]
          have HP : Hid (parseD s = (zeroD, checkD ⟨7, 0, 0, n3, lc⟩)) := by show _ = _; rw [HC.out]; exact checked_no hck
          clear hck
          go_wp2_with fail
          refine hck0.mono ?_
          rintro e w5 ⟨rfl, t5⟩
          have A5 := AW.kept t5
          have K5 := KW.trans t5
          have p0 : (w5).cell? ⟨w.heap.size, 0, none⟩ = some (.int .i64 0) := A5.cell 0 (by simp)
          have p1 : (w5).cell? ⟨w.heap.size, 1, none⟩ = some (.int .i64 0) := A5.cell 1 (by simp)
          have p2 : (w5).cell? ⟨w.heap.size, 2, none⟩ = some (.int .i64 0) := A5.cell 2 (by simp)
          have p3 : (w5).cell? ⟨w.heap.size, 3, none⟩ = some (.int .i64 0) := A5.cell 3 (by simp)
          have p4 : (w5).cell? ⟨w.heap.size, 4, none⟩ = some (.slice none 0 0) := A5.cell 4 (by simp)
          have pf0 := A5.frozen 0
          have pf1 := A5.frozen 1
          have pf2 := A5.frozen 2
          have pf3 := A5.frozen 3
          have pf4 := A5.frozen 4
          have pl := A5.lt.2
          go_wp2_with fail
          (try simp only [Exit.inBlock, Exit.then])
          refine bodyPost_ret (v := .tuple #[.agg #[.int .i64 0, .int .i64 0, .int .i64 0, .int .i64 0, .slice none 0 0], .int .i64 (checkD ⟨7, 0, 0, n3, lc⟩)]) ?_ rfl ⟨.slice none 0 0, by rw [HP.out] <;> rfl, by rw [HP.out]; exact CRow.nil _ _ _, ((turn_set5 (w5) w.heap.size (.int .i64 0) (.int .i64 0) (.int .i64 0) (.int .i64 0) (.slice none 0 0)).kept K5 (fun i hi => by omega))⟩
          rw [results_cell_tmp rfl]
          go_simp
      · have hev2 : (ev == 0) = false := by simp [hev]
        have HP : Hid (parseD s = (zeroD, ev)) := by
          rcases HI.out with h | h
          · exact h.2
          · exact absurd h.1 hev
        have hne : (ev != 0) = true := by simp [hev]
        clear hev
        have p0 : (wr).cell? ⟨w.heap.size, 0, none⟩ = some (.int .i64 0) := AW.cell 0 (by simp)
        have p1 : (wr).cell? ⟨w.heap.size, 1, none⟩ = some (.int .i64 0) := AW.cell 1 (by simp)
        have p2 : (wr).cell? ⟨w.heap.size, 2, none⟩ = some (.int .i64 0) := AW.cell 2 (by simp)
        have p3 : (wr).cell? ⟨w.heap.size, 3, none⟩ = some (.int .i64 0) := AW.cell 3 (by simp)
        have p4 : (wr).cell? ⟨w.heap.size, 4, none⟩ = some (.slice none 0 0) := AW.cell 4 (by simp)
        have pf0 := AW.frozen 0
        have pf1 := AW.frozen 1
        have pf2 := AW.frozen 2
        have pf3 := AW.frozen 3
        have pf4 := AW.frozen 4
        have pl := AW.lt.2
        go_wp2_with fail
        (try simp only [Exit.inBlock, Exit.then])
        refine bodyPost_ret (v := .tuple #[.agg #[.int .i64 0, .int .i64 0, .int .i64 0, .int .i64 0, .slice none 0 0], .int .i64 ev]) ?_ rfl ⟨.slice none 0 0, by rw [HP.out] <;> rfl, by rw [HP.out]; exact CRow.nil _ _ _, ((turn_set5 (wr) w.heap.size (.int .i64 0) (.int .i64 0) (.int .i64 0) (.int .i64 0) (.slice none 0 0)).kept KW (fun i hi => by omega))⟩
        rw [results_cell_tmp rfl]
        go_simp

end Go.Proofs.YtiiddfahpddffaaDoor
