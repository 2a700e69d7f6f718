/- times, walked. -/
import Derived.Test.YtembbhbbmkijcaaDoorTim
namespace Go.Proofs.YtembbhbbmkijcaaDoor
open Go.RowKit

/-- What there is in the midst of times. -/
structure Tm (w wr : World) (T : List Int) (j : Nat) (v4 : Value) (st : List Int) : Prop where
  all : IRow 2 w.heap.size wr (.slice (some ⟨w.heap.size, 0, none⟩) T.length T.length) (fillTo T j)
  rnd : IRow 2 w.heap.size wr v4 st.reverse
  far : ∀ q, v4.ownBlock = some q → w.heap.size < q
  kept : Kept w wr
theorem Tm.keep {w wr wx : World} {T : List Int} {j : Nat} {v4 : Value} {st : List Int} (h : Tm w wr T j v4 st) (t : Kept wr wx) : Tm w wx T j v4 st := ⟨h.all.kept t, h.rnd.kept t, h.far, h.kept.trans t⟩
theorem info2 : ∃ i, Tryd.prog.info? 2 = some i ∧ i.zero = some (.int .i64 0) ∧ i.size = 1 ∧ i.bytes = 8 := by
  obtain ⟨i, hi, hz0, hz1, hz2⟩ := info_parts n64.inf
  exact ⟨i, hi, hz0, hz1, hz2⟩
theorem made_zero (n : Nat) : (madeCells (Value.int IntKind.i64 0).cells (n * 1)).toList = (List.replicate n (0 : Int)).map intV := by
  rw [Nat.mul_one]
  apply List.ext_getElem?
  intro j
  by_cases hj : j < n
  · simp [madeCells, hj, intV, Value.cells, Nat.mod_one]
  · simp [madeCells, hj]
theorem tm_start (w w1 : World) (n : Nat) (T : List Int) (hT : T.length = n) (h : w1.ownsRow w.heap.size 2 1 (.slice (some ⟨w.heap.size, 0, none⟩) n n) n (madeCells (Value.int IntKind.i64 0).cells (n * 1)).toList) (g : w.grownBy w1 none) (hs : w.heap.size < w1.heap.size) :
    Tm w (w1.alloc (.cells #[.int .i64 1] 2)) T 0 (.slice (some ⟨w1.heap.size, 0, none⟩) 1 1) [1] := by
  have k1 : Kept w w1 := (Turns.grown (S := fun _ => False) g (fun k e => by cases e)).kept (Kept.refl w) (fun i hi => hi.elim)
  refine ⟨?_, ?_, fun q hq => by simp [Value.ownBlock] at hq; omega, k1.alloc _⟩
  · refine IRow.kept ?_ ((Kept.refl w1).alloc _)
    unfold IRow
    rw [fill_len T 0 (by omega), hT]
    have e : fillTo T 0 = List.replicate n 0 := by unfold fillTo; simp [hT]
    rw [e, ← made_zero]
    exact h
  · exact World.ownsRow_lit (base := w.heap.size) (e := 2) (size := 1) w1 #[.int .i64 1] 1 (by omega) (by unfold maxLen; omega) (by simp)

theorem fill_get {T : List Int} {j : Nat} (hj : j < T.length) : (fillTo T j)[j]? = some 0 := by
  unfold fillTo
  rw [List.getElem?_append_right (by simp; omega), List.length_take, Nat.min_eq_left (by omega), Nat.sub_self, List.getElem?_replicate, if_pos (by omega)]
theorem Tm.put {w wr : World} {T : List Int} {j : Nat} {v4 : Value} {st : List Int} {x : Int} {r : List Int} (h : Tm w wr T j v4 st) (hd : T.drop j = x :: r) : Tm w (wr.setCell ⟨w.heap.size, j, none⟩ (.int .i64 x)) T (j + 1) v4 st := by
  have hj : j < T.length := by
    rcases Nat.lt_or_ge j T.length with h' | h'
    · exact h'
    · rw [List.drop_eq_nil_of_le h'] at hd; cases hd
  have t := turn_set wr w.heap.size j (.int .i64 x)
  refine ⟨?_, h.rnd.turns t (fun q hq e => by have := h.far q hq; omega), h.far, t.kept h.kept (fun i hi => by omega)⟩
  have ha := h.all
  unfold IRow at ha ⊢
  rw [fill_len T _ (by omega)] at ha ⊢
  rw [← fill_set hd, List.map_set]
  exact (World.ownsRow.stored ha j (.int .i64 x)).1
theorem Tm.skip {w wr : World} {T : List Int} {j : Nat} {v4 : Value} {st : List Int} {r : List Int} (h : Tm w wr T j v4 st) (hd : T.drop j = 0 :: r) : Tm w wr T (j + 1) v4 st := by
  have ha := h.all
  rw [fill_same hd] at ha
  exact ⟨ha, h.rnd, h.far, h.kept⟩
theorem Tm.cut {w wr : World} {T : List Int} {j g c : Nat} {x : Int} {r : List Int} (h : Tm w wr T j (.slice (some ⟨g, 0, none⟩) (r.length + 1) c) (x :: r)) : Tm w wr T j (.slice (some ⟨g, 0, none⟩) r.length c) r := by
  refine ⟨h.all, ?_, fun q hq => h.far q hq, h.kept⟩
  have hr := h.rnd
  unfold IRow at hr ⊢
  rw [List.reverse_cons, List.length_append, List.length_reverse] at hr
  have h2 := own_take (r := r.length) hr (by simp)
  rw [List.length_reverse]
  have h3 : (List.map intV (r.reverse ++ [x])).take (r.length * 1) = r.reverse.map intV := by
    rw [Nat.mul_one, List.map_append]
    exact List.take_left' (by simp)
  rw [h3] at h2
  exact h2
theorem Tm.push {w wr w' : World} {T : List Int} {j : Nat} {v4 : Value} {st : List Int} {y : Int} {o1 o2 : Obj} {g n c : Nat} (h : Tm w wr T j v4 st) (gr : ((wr.alloc o1).drew.alloc o2).grownBy w' v4.ownBlock) (at5 : v4.ownBlock = some g ∨ (wr.alloc o1).drew.heap.size < g)
    (r : IRow 2 w.heap.size w' (.slice (some ⟨g, 0, none⟩) n c) (st.reverse ++ [y])) : Tm w w' T j (.slice (some ⟨g, 0, none⟩) n c) (y :: st) := by
  have t : Turns (fun k => v4.ownBlock = some k) wr w' := ((((Turns.refl _ wr).alloc o1).drew).alloc o2).trans (Turns.grown gr (fun k e => e))
  have hs := (World.ownsRow.lt h.all w.heap.size rfl).2
  refine ⟨h.all.turns t (fun q hq e => by simp [Value.ownBlock] at hq; have := h.far q e; omega), ?_, ?_, t.kept h.kept (fun i hi => by have := h.far i hi; omega)⟩
  · rw [List.reverse_cons]
    exact r
  · intro q hq
    simp [Value.ownBlock] at hq
    subst hq
    rcases at5 with h1 | h1
    · exact h.far _ h1
    · have : (wr.alloc o1).drew.heap.size = wr.heap.size + 1 := by show (wr.alloc o1).heap.size = _; simp
      omega
theorem run_cons {m : Nat} {lp : List Nat} {o : OpD} {r : List OpD} {x : Nat × List Nat} (h : runM m lp (o :: r) = some x) : ∃ m1 lp1, takeM m lp o = some (m1, lp1) ∧ runM m1 lp1 r = some x := by
  rw [runM] at h
  cases ht : takeM m lp o with
  | none => rw [ht] at h; cases h
  | some y => rw [ht] at h; exact ⟨y.1, y.2, rfl, h⟩
theorem loop_n {n v wt : Int} {l : List CaseD} (h : checkD ⟨8, n, v, wt, l⟩ = 0) : 1 ≤ n ∧ n ≤ 32 := by
  have := (taken_of h).takes
  simp [takesB, shapeOf] at this
  omega

set_option maxHeartbeats 4000000 in
set_option maxRecDepth 10000 in
theorem times_any (a : Option Addr) (c : Nat) (p : List OpD) (w : World) (hA : AtP w a p) (hp : p.length ≤ 100000) (hc : ∀ o ∈ p, checkD o = 0) (hrun : runM 0 [] p = some (0, [])) :
    Calls Tryd.prog 35 #[.slice a p.length c] w fun e w' => ∃ v, e = .returned v ∧ IRow 2 w.heap.size w' v (timesGo [1] p) ∧ Kept w w' := by
  have HA : Hid (AtP w a p) := hA
  have HC : Hid (∀ o ∈ p, checkD o = 0) := hc
  have HRUN : Hid (runM 0 [] p = some (0, [])) := hrun
  obtain ⟨T, hT⟩ : ∃ T, timesGo [1] p = T := ⟨_, rfl⟩
  have hTl : T.length = p.length := by rw [← hT, times_len]
  have HT0 : Hid (T.drop 0 = timesGo [1] (p.drop 0)) := by show _ = _; rw [List.drop_zero, List.drop_zero, hT]
  rw [hT]
  obtain ⟨i2, hi2, hi20, hi21, hi28⟩ := info2
  clear hA hc hrun hT
  go_enter Tryd.func35, Tryd.ntmps35
  go_wp2_with (refine wpList_make_full _ rfl _ _ 38 rfl w.heap.size 2 i2 _ 1 Tryd.underlying38 hi2 hi20 hi21 _ _ _ _ p.length rfl rfl rfl rfl (by rw [hi28]; omega) (by unfold maxLen; omega) (Nat.le_refl _) ?_; intro w1 ow1 gr1)
  have hs1 := (World.ownsRow.lt ow1 w.heap.size rfl).2
  have M0 : Hid (Tm w (w1.alloc (.cells #[.int .i64 1] 2)) T 0 (.slice (some ⟨w1.heap.size, 0, none⟩) 1 1) [1]) := tm_start w w1 p.length T hTl ow1 gr1 hs1
  clear ow1 gr1 hs1
  go_loopg [4, 14] p.length (fun gk v4 i wr => ∃ (j m : Nat) (lp : List Nat) (st : List Int), i = .int .i64 j ∧ j + gk = p.length ∧ Hid (runM m lp (p.drop j) = some (0, [])) ∧ Hid (lp.length ≤ 3) ∧ Hid (st.length = lp.length + 1) ∧ Hid (Bds st) ∧ Hid (T.drop j = timesGo st (p.drop j)) ∧ Hid (Tm w wr T j v4 st))
  case atStart => exact ⟨0, 0, [], [1], rfl, by omega, (by show _ = _; rw [List.drop_zero]; exact HRUN.out), (by show _ ≤ _; simp), (by show _ = _; simp), (by show Bds _; simp [Bds]), HT0, M0⟩
  case round =>
    obtain ⟨j, m, lp, st, rfl, hj, HU, HL, HSL, HB, HT, HM⟩ := hrel
    by_cases hjp : j < p.length
    · obtain ⟨b, f, k, n, v, wt, l, ca, cc, rfl, hpj, g0, g1, g2, g3, g4, hcc, hat, hbl, hdr⟩ := (HA.out.kept HM.out.kept).get j hjp
      have b1 : (j : Int) < (p.length : Int) := by omega
      have b2 : (0 : Int) ≤ (j : Int) := by omega
      have HCK : Hid (checkD ⟨k, n, v, wt, l⟩ = 0) := HC.out _ (List.mem_of_getElem? hpj)
      obtain ⟨m1, lp1, htk, hru⟩ := run_cons (by rw [← hdr]; exact HU.out)
      have HU2 : Hid (runM m1 lp1 (p.drop (j + 1)) = some (0, [])) := hru
      have HT2 : Hid (T.drop j = timesGo st (⟨k, n, v, wt, l⟩ :: p.drop (j + 1))) := by show _ = _; rw [HT.out, hdr]
      obtain ⟨g3', rfl⟩ : ∃ g, gk = g + 1 := ⟨gk - 1, by omega⟩
      clear hpj hat hdr HT HU hru
      have hs4 : st.length ≤ 4 := by have h1 := HSL.out; have h2 := HL.out; omega
      have hs1 : 1 ≤ st.length := by have h1 := HSL.out; omega
      rcases st with _ | ⟨x, r⟩
      · simp at hs1
      · have hxb := bds_top HB.out (by simp at hs4; omega)
        rcases r with _ | ⟨y1, _ | ⟨y2, _ | ⟨y3, _ | ⟨y4, r⟩⟩⟩⟩
        · have hrl : ([x] : List Int).reverse.length = 1 := by simp
          obtain ⟨g, cp, hv4, hcp, hg1, hg2⟩ := HM.out.rnd.some (by rw [hrl]; omega)
          rw [hrl] at hv4 hcp
          subst hv4
          have cx : wr.cell? ⟨g, 0, none⟩ = some (.int .i64 x) := by
            have h := HM.out.rnd
            exact IRow.cell (c := cp) (l := ([x] : List Int).reverse) (by rw [hrl]; exact h) 0 x (by simp)
          have hsw := (World.ownsRow.lt HM.out.all w.heap.size rfl).2
          have hgw : ¬ wr.heap.size = g := by omega
          by_cases h8 : k = 8
          · subst h8
            obtain ⟨hl3, hx1⟩ := take_loop rfl htk
            cases hx1
            obtain ⟨hn1, hn2⟩ := loop_n HCK.out
            have HB2 : Hid (Bds (x * n :: [x])) := bds_push HB.out hn1 hn2
            obtain ⟨y, hy⟩ : ∃ y, x * n = y := ⟨_, rfl⟩
            have hyb : 1 ≤ y ∧ y ≤ 1048576 := by
              obtain ⟨q1, q2, _⟩ := HB2.out
              have : x * n ≤ 32768 * 32 := Int.mul_le_mul hxb.2 hn2 (by omega) (by omega)
              rw [← hy]
              exact ⟨q1, by omega⟩
            have HT3 : Hid (T.drop j = 0 :: timesGo (y :: [x]) (p.drop (j + 1))) := by show _ = _; rw [HT2.out, timesGo, if_pos rfl, ← hy]; rfl
            have HT4 : Hid (T.drop (j + 1) = timesGo (y :: [x]) (p.drop (j + 1))) := drop_next HT3.out
            have KA := ((Kept.refl wr).alloc (.cells #[.int .i64 8, .int .i64 n, .int .i64 v, .int .i64 wt, .slice ca l.length cc] 31)).drew
            have hle1 : ([x] : List Int).reverse.length ≤ 1000000 := by rw [hrl]; omega
            have hle2 : w.heap.size ≤ (wr.alloc (.cells #[.int .i64 8, .int .i64 n, .int .i64 v, .int .i64 wt, .slice ca l.length cc] 31)).drew.heap.size := by have := KA.size; omega
            have H0 : Hid ((m :: lp).length ≤ 3 ∧ (y :: [x]).length = (m :: lp).length + 1) := by
              have h2 : 1 = lp.length + 1 := HSL.out
              show lp.length + 1 ≤ 3 ∧ 1 + 1 = lp.length + 1 + 1
              omega
            rw [hy] at HB2
            have HWM : Hid (IntKind.i64.wrap y = y) := by show _ = _; simp [IntKind.wrap, IntKind.bits, IntKind.signed]; omega
            clear htk HT2
            go_wp2_with fail
            refine wp_region_S (by kernel_rfl) 10 (fun w' => w'.cell? ⟨wr.heap.size, 1, none⟩ = some (.int .i64 n)) ?_
            have hS0 : (wr.alloc (.cells #[.int .i64 8, .int .i64 n, .int .i64 v, .int .i64 wt, .slice ca l.length cc] 31)).drew.cell? ⟨wr.heap.size, 1, none⟩ = some (.int .i64 n) := (box_new 0 wr 31 [.int .i64 8, .int .i64 n, .int .i64 v, .int .i64 wt, .slice ca l.length cc] (Nat.zero_le _) (by simp)).cell 1 (by simp)
            refine wpAnyS_take (i := 0) (v := .slice (some ⟨g, 0, none⟩) 1 cp) rfl (by kernel_rfl) (by kernel_rfl) (by kernel_rfl) (by kernel_rfl) (fun _ _ _ h => h) hS0 rfl (fun wx hx => by go_simp) ?_
            refine wpAnyS_take (i := 1) (v := .slice (some ⟨g, 0, none⟩) 1 cp) rfl (by kernel_rfl) (by kernel_rfl) (by kernel_rfl) (by kernel_rfl) (fun _ _ _ h => h) hS0 rfl (fun wx hx => by go_simp) ?_
            refine wpAnyS_take (i := 2) (v := .int .i64 0) rfl (by kernel_rfl) (by kernel_rfl) (by kernel_rfl) (by kernel_rfl) (fun _ _ _ h => h) hS0 rfl (fun wx hx => by go_simp) ?_
            refine wpAnyS_take (i := 3) (v := .pointer (some ⟨g, 0, none⟩)) rfl (by kernel_rfl) (by kernel_rfl) (by kernel_rfl) (by kernel_rfl) (fun _ _ _ h => h) hS0 rfl (fun wx hx => by go_simp) ?_
            refine wpAnyS_take (i := 5) (v := .pointer (some ⟨wr.heap.size, 1, none⟩)) rfl (by kernel_rfl) (by kernel_rfl) (by kernel_rfl) (by kernel_rfl) (fun _ _ _ h => h) hS0 rfl (fun wx hx => by go_simp) ?_
            refine wpAnyS_take (i := 6) (v := .int .i64 n) rfl (by kernel_rfl) (by kernel_rfl) (by kernel_rfl) (by kernel_rfl) (fun _ _ _ h => h) hS0 rfl (fun wx hx => by go_simp) ?_
            refine wpAnyS_one (i := 4) rfl (by kernel_rfl) (fun K hK => ?_)
            go_simp
            refine hK _ _ (fun _ => hS0) ?_
            clear hK K
            refine wpAnyS_one (i := 7) rfl (by kernel_rfl) (fun K hK => ?_)
            go_simp
            rw [HWM.out]
            refine hK _ _ (fun _ => hS0) ?_
            clear hK K
            refine wpAnyS_one (i := 8) rfl (by kernel_rfl) (fun K hK => ?_)
            go_simp
            have hS1 : ((wr.alloc (.cells #[.int .i64 8, .int .i64 n, .int .i64 v, .int .i64 wt, .slice ca l.length cc] 31)).drew.alloc (.cells #[.int .i64 y] 2)).cell? ⟨wr.heap.size, 1, none⟩ = some (.int .i64 n) := ((Kept.refl _).alloc _).cell hS0
            refine hK _ _ (fun _ => hS1) ?_
            clear hK K
            refine wpAnyS_one (i := 9) rfl (by kernel_rfl) (fun K hK => ?_)
            refine step_append_int n64 _ (by rfl) _ _ (by rfl) w.heap.size (.slice (some ⟨g, 0, none⟩) 1 cp) ([x] : List Int).reverse y (wr.alloc (.cells #[.int .i64 8, .int .i64 n, .int .i64 v, .int .i64 wt, .slice ca l.length cc] 31)).drew (by rfl) (by rfl) (wr.heap.size + 1) (by show _ = (wr.alloc _).heap.size; simp) (by rfl) (HM.out.rnd.kept KA) hle1 hle2 ?_
            intro g5 c5 w5 R5 gr5 at5
            have hS5 : w5.cell? ⟨wr.heap.size, 1, none⟩ = some (.int .i64 n) := by
              have t5 : Turns (fun k => k = g) ((wr.alloc (.cells #[.int .i64 8, .int .i64 n, .int .i64 v, .int .i64 wt, .slice ca l.length cc] 31)).drew.alloc (.cells #[.int .i64 y] 2)) w5 := Turns.grown gr5 (fun k e => by simp [Value.ownBlock] at e; exact e.symm)
              exact t5.cell hS1 (cell_lt hS1) hgw
            have M5 := HM.out.push gr5 at5 R5
            rw [hrl] at M5 ⊢
            have HM5 : Hid (Tm w w5 T (j + 1) (.slice (some ⟨g5, 0, none⟩) (1 + 1) c5) (y :: [x])) := M5.skip HT3.out
            clear M5 R5 gr5 at5
            refine hK _ _ (fun _ => hS5) ?_
            clear hK K
            refine wpAnyS_one (i := 10) rfl (by kernel_rfl) (fun K hK => ?_)
            go_simp
            refine hK _ _ (fun h => absurd rfl h) ?_
            clear hK K
            refine wpAnyS_done (by kernel_rfl) ?_ _
            go_wp2_with fail
            go_roundg g3'
            case rel => exact ⟨j + 1, m, m :: lp, y :: [x], by go_num, by omega, HU2, H0.out.1, H0.out.2, HB2, HT4, HM5⟩
            case measure => omega
          · have k8 : (k == 8) = false := beq_eq_false_iff_ne.2 h8
            have KA := ((Kept.refl wr).alloc (.cells #[.int .i64 k, .int .i64 n, .int .i64 v, .int .i64 wt, .slice ca l.length cc] 31))
            by_cases h9 : k = 9
            · subst h9
              obtain ⟨r', hlp, hx1⟩ := take_end rfl htk
              have e1 := (Prod.mk.inj hx1).1
              have e2 := (Prod.mk.inj hx1).2
              clear hx1
              have h2 := HSL.out
              rw [hlp] at h2
              simp at h2
            · have k9 : (k != 9) = true := by simp [h9]
              obtain ⟨ht1, hx1⟩ := take_plain h8 h9 htk
              simp only at hx1
              subst hx1
              have HT3 : Hid (T.drop j = x :: timesGo [x] (p.drop (j + 1))) := by show _ = _; rw [HT2.out, timesGo, if_neg h8, if_neg h9]; rfl
              have HT4 : Hid (T.drop (j + 1) = timesGo [x] (p.drop (j + 1))) := drop_next HT3.out
              have HM5 : Hid (Tm w ((wr.setCell ⟨w.heap.size, j, none⟩ (.int .i64 x)).alloc (.cells #[.int .i64 k, .int .i64 n, .int .i64 v, .int .i64 wt, .slice ca l.length cc] 31)) T (j + 1) (.slice (some ⟨g, 0, none⟩) 1 cp) [x]) := (HM.out.put HT3.out).keep ((Kept.refl _).alloc _)
              have hall := HM.out.all
              have cz : wr.cell? ⟨w.heap.size, j, none⟩ = some (.int .i64 0) := by
                unfold IRow at hall
                rw [fill_len T j (by omega)] at hall
                rw [hall.cellAt j (by omega), List.getElem?_map, fill_get (by omega)]
                rfl
              have fz : wr.frozen? ⟨w.heap.size, j, none⟩ = false := by
                unfold IRow at hall
                rw [fill_len T j (by omega)] at hall
                exact hall.frozenAt j
              clear htk HT2 hall ht1
              have b7 : (j : Int) < (T.length : Int) := by omega
              go_wp2_with fail
              go_roundg g3'
              case rel => exact ⟨j + 1, m1, lp1, [x], by go_num, by omega, HU2, HL, HSL, HB, HT4, HM5⟩
              case measure => omega
        · have hrl : ([x, y1] : List Int).reverse.length = 2 := by simp
          obtain ⟨g, cp, hv4, hcp, hg1, hg2⟩ := HM.out.rnd.some (by rw [hrl]; omega)
          rw [hrl] at hv4 hcp
          subst hv4
          have cx : wr.cell? ⟨g, 1, none⟩ = some (.int .i64 x) := by
            have h := HM.out.rnd
            exact IRow.cell (c := cp) (l := ([x, y1] : List Int).reverse) (by rw [hrl]; exact h) 1 x (by simp)
          have hsw := (World.ownsRow.lt HM.out.all w.heap.size rfl).2
          have hgw : ¬ wr.heap.size = g := by omega
          by_cases h8 : k = 8
          · subst h8
            obtain ⟨hl3, hx1⟩ := take_loop rfl htk
            cases hx1
            obtain ⟨hn1, hn2⟩ := loop_n HCK.out
            have HB2 : Hid (Bds (x * n :: [x, y1])) := bds_push HB.out hn1 hn2
            obtain ⟨y, hy⟩ : ∃ y, x * n = y := ⟨_, rfl⟩
            have hyb : 1 ≤ y ∧ y ≤ 1048576 := by
              obtain ⟨q1, q2, _⟩ := HB2.out
              have : x * n ≤ 32768 * 32 := Int.mul_le_mul hxb.2 hn2 (by omega) (by omega)
              rw [← hy]
              exact ⟨q1, by omega⟩
            have HT3 : Hid (T.drop j = 0 :: timesGo (y :: [x, y1]) (p.drop (j + 1))) := by show _ = _; rw [HT2.out, timesGo, if_pos rfl, ← hy]; rfl
            have HT4 : Hid (T.drop (j + 1) = timesGo (y :: [x, y1]) (p.drop (j + 1))) := drop_next HT3.out
            have KA := ((Kept.refl wr).alloc (.cells #[.int .i64 8, .int .i64 n, .int .i64 v, .int .i64 wt, .slice ca l.length cc] 31)).drew
            have hle1 : ([x, y1] : List Int).reverse.length ≤ 1000000 := by rw [hrl]; omega
            have hle2 : w.heap.size ≤ (wr.alloc (.cells #[.int .i64 8, .int .i64 n, .int .i64 v, .int .i64 wt, .slice ca l.length cc] 31)).drew.heap.size := by have := KA.size; omega
            have H1 : Hid ((m :: lp).length ≤ 3 ∧ (y :: [x, y1]).length = (m :: lp).length + 1) := by
              have h2 : 2 = lp.length + 1 := HSL.out
              show lp.length + 1 ≤ 3 ∧ 2 + 1 = lp.length + 1 + 1
              omega
            rw [hy] at HB2
            have HWM : Hid (IntKind.i64.wrap y = y) := by show _ = _; simp [IntKind.wrap, IntKind.bits, IntKind.signed]; omega
            clear htk HT2
            go_wp2_with fail
            refine wp_region_S (by kernel_rfl) 10 (fun w' => w'.cell? ⟨wr.heap.size, 1, none⟩ = some (.int .i64 n)) ?_
            have hS0 : (wr.alloc (.cells #[.int .i64 8, .int .i64 n, .int .i64 v, .int .i64 wt, .slice ca l.length cc] 31)).drew.cell? ⟨wr.heap.size, 1, none⟩ = some (.int .i64 n) := (box_new 0 wr 31 [.int .i64 8, .int .i64 n, .int .i64 v, .int .i64 wt, .slice ca l.length cc] (Nat.zero_le _) (by simp)).cell 1 (by simp)
            refine wpAnyS_take (i := 0) (v := .slice (some ⟨g, 0, none⟩) 2 cp) rfl (by kernel_rfl) (by kernel_rfl) (by kernel_rfl) (by kernel_rfl) (fun _ _ _ h => h) hS0 rfl (fun wx hx => by go_simp) ?_
            refine wpAnyS_take (i := 1) (v := .slice (some ⟨g, 0, none⟩) 2 cp) rfl (by kernel_rfl) (by kernel_rfl) (by kernel_rfl) (by kernel_rfl) (fun _ _ _ h => h) hS0 rfl (fun wx hx => by go_simp) ?_
            refine wpAnyS_take (i := 2) (v := .int .i64 1) rfl (by kernel_rfl) (by kernel_rfl) (by kernel_rfl) (by kernel_rfl) (fun _ _ _ h => h) hS0 rfl (fun wx hx => by go_simp) ?_
            refine wpAnyS_take (i := 3) (v := .pointer (some ⟨g, 1, none⟩)) rfl (by kernel_rfl) (by kernel_rfl) (by kernel_rfl) (by kernel_rfl) (fun _ _ _ h => h) hS0 rfl (fun wx hx => by go_simp) ?_
            refine wpAnyS_take (i := 5) (v := .pointer (some ⟨wr.heap.size, 1, none⟩)) rfl (by kernel_rfl) (by kernel_rfl) (by kernel_rfl) (by kernel_rfl) (fun _ _ _ h => h) hS0 rfl (fun wx hx => by go_simp) ?_
            refine wpAnyS_take (i := 6) (v := .int .i64 n) rfl (by kernel_rfl) (by kernel_rfl) (by kernel_rfl) (by kernel_rfl) (fun _ _ _ h => h) hS0 rfl (fun wx hx => by go_simp) ?_
            refine wpAnyS_one (i := 4) rfl (by kernel_rfl) (fun K hK => ?_)
            go_simp
            refine hK _ _ (fun _ => hS0) ?_
            clear hK K
            refine wpAnyS_one (i := 7) rfl (by kernel_rfl) (fun K hK => ?_)
            go_simp
            rw [HWM.out]
            refine hK _ _ (fun _ => hS0) ?_
            clear hK K
            refine wpAnyS_one (i := 8) rfl (by kernel_rfl) (fun K hK => ?_)
            go_simp
            have hS1 : ((wr.alloc (.cells #[.int .i64 8, .int .i64 n, .int .i64 v, .int .i64 wt, .slice ca l.length cc] 31)).drew.alloc (.cells #[.int .i64 y] 2)).cell? ⟨wr.heap.size, 1, none⟩ = some (.int .i64 n) := ((Kept.refl _).alloc _).cell hS0
            refine hK _ _ (fun _ => hS1) ?_
            clear hK K
            refine wpAnyS_one (i := 9) rfl (by kernel_rfl) (fun K hK => ?_)
            refine step_append_int n64 _ (by rfl) _ _ (by rfl) w.heap.size (.slice (some ⟨g, 0, none⟩) 2 cp) ([x, y1] : List Int).reverse y (wr.alloc (.cells #[.int .i64 8, .int .i64 n, .int .i64 v, .int .i64 wt, .slice ca l.length cc] 31)).drew (by rfl) (by rfl) (wr.heap.size + 1) (by show _ = (wr.alloc _).heap.size; simp) (by rfl) (HM.out.rnd.kept KA) hle1 hle2 ?_
            intro g5 c5 w5 R5 gr5 at5
            have hS5 : w5.cell? ⟨wr.heap.size, 1, none⟩ = some (.int .i64 n) := by
              have t5 : Turns (fun k => k = g) ((wr.alloc (.cells #[.int .i64 8, .int .i64 n, .int .i64 v, .int .i64 wt, .slice ca l.length cc] 31)).drew.alloc (.cells #[.int .i64 y] 2)) w5 := Turns.grown gr5 (fun k e => by simp [Value.ownBlock] at e; exact e.symm)
              exact t5.cell hS1 (cell_lt hS1) hgw
            have M5 := HM.out.push gr5 at5 R5
            rw [hrl] at M5 ⊢
            have HM5 : Hid (Tm w w5 T (j + 1) (.slice (some ⟨g5, 0, none⟩) (2 + 1) c5) (y :: [x, y1])) := M5.skip HT3.out
            clear M5 R5 gr5 at5
            refine hK _ _ (fun _ => hS5) ?_
            clear hK K
            refine wpAnyS_one (i := 10) rfl (by kernel_rfl) (fun K hK => ?_)
            go_simp
            refine hK _ _ (fun h => absurd rfl h) ?_
            clear hK K
            refine wpAnyS_done (by kernel_rfl) ?_ _
            go_wp2_with fail
            go_roundg g3'
            case rel => exact ⟨j + 1, m, m :: lp, y :: [x, y1], by go_num, by omega, HU2, H1.out.1, H1.out.2, HB2, HT4, HM5⟩
            case measure => omega
          · have k8 : (k == 8) = false := beq_eq_false_iff_ne.2 h8
            have KA := ((Kept.refl wr).alloc (.cells #[.int .i64 k, .int .i64 n, .int .i64 v, .int .i64 wt, .slice ca l.length cc] 31))
            by_cases h9 : k = 9
            · subst h9
              obtain ⟨r', hlp, hx1⟩ := take_end rfl htk
              have e1 := (Prod.mk.inj hx1).1
              have e2 := (Prod.mk.inj hx1).2
              clear hx1
              have HT3 : Hid (T.drop j = 0 :: timesGo [y1] (p.drop (j + 1))) := by
                show _ = _
                rw [HT2.out, timesGo, if_neg (by simp), if_pos rfl, if_pos (by simp)]
                rfl
              have HT4 : Hid (T.drop (j + 1) = timesGo [y1] (p.drop (j + 1))) := drop_next HT3.out
              have HM5 : Hid (Tm w (wr.alloc (.cells #[.int .i64 9, .int .i64 n, .int .i64 v, .int .i64 wt, .slice ca l.length cc] 31)) T (j + 1) (.slice (some ⟨g, 0, none⟩) 1 cp) [y1]) := Tm.cut (x := x) (r := [y1]) ((HM.out.keep KA).skip HT3.out)
              have HB2 : Hid (Bds [y1]) := HB.out.2.2
              have HLE : Hid (lp1.length ≤ 3 ∧ ([y1] : List Int).length = lp1.length + 1) := by
                have h1 : 2 = lp.length + 1 := HSL.out
                rw [hlp, ← e2, List.length_cons] at h1
                show lp1.length ≤ 3 ∧ 1 = lp1.length + 1
                omega
              have b6 : (1 : Int) ≤ (cp : Int) := by omega
              clear htk HT2 hlp HB e1 e2
              go_wp2_with fail
              go_roundg g3'
              case rel => exact ⟨j + 1, m1, lp1, [y1], by go_num, by omega, HU2, HLE.out.1, HLE.out.2, HB2, HT4, HM5⟩
              case measure => omega
            · have k9 : (k != 9) = true := by simp [h9]
              obtain ⟨ht1, hx1⟩ := take_plain h8 h9 htk
              simp only at hx1
              subst hx1
              have HT3 : Hid (T.drop j = x :: timesGo [x, y1] (p.drop (j + 1))) := by show _ = _; rw [HT2.out, timesGo, if_neg h8, if_neg h9]; rfl
              have HT4 : Hid (T.drop (j + 1) = timesGo [x, y1] (p.drop (j + 1))) := drop_next HT3.out
              have HM5 : Hid (Tm w ((wr.setCell ⟨w.heap.size, j, none⟩ (.int .i64 x)).alloc (.cells #[.int .i64 k, .int .i64 n, .int .i64 v, .int .i64 wt, .slice ca l.length cc] 31)) T (j + 1) (.slice (some ⟨g, 0, none⟩) 2 cp) [x, y1]) := (HM.out.put HT3.out).keep ((Kept.refl _).alloc _)
              have hall := HM.out.all
              have cz : wr.cell? ⟨w.heap.size, j, none⟩ = some (.int .i64 0) := by
                unfold IRow at hall
                rw [fill_len T j (by omega)] at hall
                rw [hall.cellAt j (by omega), List.getElem?_map, fill_get (by omega)]
                rfl
              have fz : wr.frozen? ⟨w.heap.size, j, none⟩ = false := by
                unfold IRow at hall
                rw [fill_len T j (by omega)] at hall
                exact hall.frozenAt j
              clear htk HT2 hall ht1
              have b7 : (j : Int) < (T.length : Int) := by omega
              go_wp2_with fail
              go_roundg g3'
              case rel => exact ⟨j + 1, m1, lp1, [x, y1], by go_num, by omega, HU2, HL, HSL, HB, HT4, HM5⟩
              case measure => omega
        · have hrl : ([x, y1, y2] : List Int).reverse.length = 3 := by simp
          obtain ⟨g, cp, hv4, hcp, hg1, hg2⟩ := HM.out.rnd.some (by rw [hrl]; omega)
          rw [hrl] at hv4 hcp
          subst hv4
          have cx : wr.cell? ⟨g, 2, none⟩ = some (.int .i64 x) := by
            have h := HM.out.rnd
            exact IRow.cell (c := cp) (l := ([x, y1, y2] : List Int).reverse) (by rw [hrl]; exact h) 2 x (by simp)
          have hsw := (World.ownsRow.lt HM.out.all w.heap.size rfl).2
          have hgw : ¬ wr.heap.size = g := by omega
          by_cases h8 : k = 8
          · subst h8
            obtain ⟨hl3, hx1⟩ := take_loop rfl htk
            cases hx1
            obtain ⟨hn1, hn2⟩ := loop_n HCK.out
            have HB2 : Hid (Bds (x * n :: [x, y1, y2])) := bds_push HB.out hn1 hn2
            obtain ⟨y, hy⟩ : ∃ y, x * n = y := ⟨_, rfl⟩
            have hyb : 1 ≤ y ∧ y ≤ 1048576 := by
              obtain ⟨q1, q2, _⟩ := HB2.out
              have : x * n ≤ 32768 * 32 := Int.mul_le_mul hxb.2 hn2 (by omega) (by omega)
              rw [← hy]
              exact ⟨q1, by omega⟩
            have HT3 : Hid (T.drop j = 0 :: timesGo (y :: [x, y1, y2]) (p.drop (j + 1))) := by show _ = _; rw [HT2.out, timesGo, if_pos rfl, ← hy]; rfl
            have HT4 : Hid (T.drop (j + 1) = timesGo (y :: [x, y1, y2]) (p.drop (j + 1))) := drop_next HT3.out
            have KA := ((Kept.refl wr).alloc (.cells #[.int .i64 8, .int .i64 n, .int .i64 v, .int .i64 wt, .slice ca l.length cc] 31)).drew
            have hle1 : ([x, y1, y2] : List Int).reverse.length ≤ 1000000 := by rw [hrl]; omega
            have hle2 : w.heap.size ≤ (wr.alloc (.cells #[.int .i64 8, .int .i64 n, .int .i64 v, .int .i64 wt, .slice ca l.length cc] 31)).drew.heap.size := by have := KA.size; omega
            have H2 : Hid ((m :: lp).length ≤ 3 ∧ (y :: [x, y1, y2]).length = (m :: lp).length + 1) := by
              have h2 : 3 = lp.length + 1 := HSL.out
              show lp.length + 1 ≤ 3 ∧ 3 + 1 = lp.length + 1 + 1
              omega
            rw [hy] at HB2
            have HWM : Hid (IntKind.i64.wrap y = y) := by show _ = _; simp [IntKind.wrap, IntKind.bits, IntKind.signed]; omega
            clear htk HT2
            go_wp2_with fail
            refine wp_region_S (by kernel_rfl) 10 (fun w' => w'.cell? ⟨wr.heap.size, 1, none⟩ = some (.int .i64 n)) ?_
            have hS0 : (wr.alloc (.cells #[.int .i64 8, .int .i64 n, .int .i64 v, .int .i64 wt, .slice ca l.length cc] 31)).drew.cell? ⟨wr.heap.size, 1, none⟩ = some (.int .i64 n) := (box_new 0 wr 31 [.int .i64 8, .int .i64 n, .int .i64 v, .int .i64 wt, .slice ca l.length cc] (Nat.zero_le _) (by simp)).cell 1 (by simp)
            refine wpAnyS_take (i := 0) (v := .slice (some ⟨g, 0, none⟩) 3 cp) rfl (by kernel_rfl) (by kernel_rfl) (by kernel_rfl) (by kernel_rfl) (fun _ _ _ h => h) hS0 rfl (fun wx hx => by go_simp) ?_
            refine wpAnyS_take (i := 1) (v := .slice (some ⟨g, 0, none⟩) 3 cp) rfl (by kernel_rfl) (by kernel_rfl) (by kernel_rfl) (by kernel_rfl) (fun _ _ _ h => h) hS0 rfl (fun wx hx => by go_simp) ?_
            refine wpAnyS_take (i := 2) (v := .int .i64 2) rfl (by kernel_rfl) (by kernel_rfl) (by kernel_rfl) (by kernel_rfl) (fun _ _ _ h => h) hS0 rfl (fun wx hx => by go_simp) ?_
            refine wpAnyS_take (i := 3) (v := .pointer (some ⟨g, 2, none⟩)) rfl (by kernel_rfl) (by kernel_rfl) (by kernel_rfl) (by kernel_rfl) (fun _ _ _ h => h) hS0 rfl (fun wx hx => by go_simp) ?_
            refine wpAnyS_take (i := 5) (v := .pointer (some ⟨wr.heap.size, 1, none⟩)) rfl (by kernel_rfl) (by kernel_rfl) (by kernel_rfl) (by kernel_rfl) (fun _ _ _ h => h) hS0 rfl (fun wx hx => by go_simp) ?_
            refine wpAnyS_take (i := 6) (v := .int .i64 n) rfl (by kernel_rfl) (by kernel_rfl) (by kernel_rfl) (by kernel_rfl) (fun _ _ _ h => h) hS0 rfl (fun wx hx => by go_simp) ?_
            refine wpAnyS_one (i := 4) rfl (by kernel_rfl) (fun K hK => ?_)
            go_simp
            refine hK _ _ (fun _ => hS0) ?_
            clear hK K
            refine wpAnyS_one (i := 7) rfl (by kernel_rfl) (fun K hK => ?_)
            go_simp
            rw [HWM.out]
            refine hK _ _ (fun _ => hS0) ?_
            clear hK K
            refine wpAnyS_one (i := 8) rfl (by kernel_rfl) (fun K hK => ?_)
            go_simp
            have hS1 : ((wr.alloc (.cells #[.int .i64 8, .int .i64 n, .int .i64 v, .int .i64 wt, .slice ca l.length cc] 31)).drew.alloc (.cells #[.int .i64 y] 2)).cell? ⟨wr.heap.size, 1, none⟩ = some (.int .i64 n) := ((Kept.refl _).alloc _).cell hS0
            refine hK _ _ (fun _ => hS1) ?_
            clear hK K
            refine wpAnyS_one (i := 9) rfl (by kernel_rfl) (fun K hK => ?_)
            refine step_append_int n64 _ (by rfl) _ _ (by rfl) w.heap.size (.slice (some ⟨g, 0, none⟩) 3 cp) ([x, y1, y2] : List Int).reverse y (wr.alloc (.cells #[.int .i64 8, .int .i64 n, .int .i64 v, .int .i64 wt, .slice ca l.length cc] 31)).drew (by rfl) (by rfl) (wr.heap.size + 1) (by show _ = (wr.alloc _).heap.size; simp) (by rfl) (HM.out.rnd.kept KA) hle1 hle2 ?_
            intro g5 c5 w5 R5 gr5 at5
            have hS5 : w5.cell? ⟨wr.heap.size, 1, none⟩ = some (.int .i64 n) := by
              have t5 : Turns (fun k => k = g) ((wr.alloc (.cells #[.int .i64 8, .int .i64 n, .int .i64 v, .int .i64 wt, .slice ca l.length cc] 31)).drew.alloc (.cells #[.int .i64 y] 2)) w5 := Turns.grown gr5 (fun k e => by simp [Value.ownBlock] at e; exact e.symm)
              exact t5.cell hS1 (cell_lt hS1) hgw
            have M5 := HM.out.push gr5 at5 R5
            rw [hrl] at M5 ⊢
            have HM5 : Hid (Tm w w5 T (j + 1) (.slice (some ⟨g5, 0, none⟩) (3 + 1) c5) (y :: [x, y1, y2])) := M5.skip HT3.out
            clear M5 R5 gr5 at5
            refine hK _ _ (fun _ => hS5) ?_
            clear hK K
            refine wpAnyS_one (i := 10) rfl (by kernel_rfl) (fun K hK => ?_)
            go_simp
            refine hK _ _ (fun h => absurd rfl h) ?_
            clear hK K
            refine wpAnyS_done (by kernel_rfl) ?_ _
            go_wp2_with fail
            go_roundg g3'
            case rel => exact ⟨j + 1, m, m :: lp, y :: [x, y1, y2], by go_num, by omega, HU2, H2.out.1, H2.out.2, HB2, HT4, HM5⟩
            case measure => omega
          · have k8 : (k == 8) = false := beq_eq_false_iff_ne.2 h8
            have KA := ((Kept.refl wr).alloc (.cells #[.int .i64 k, .int .i64 n, .int .i64 v, .int .i64 wt, .slice ca l.length cc] 31))
            by_cases h9 : k = 9
            · subst h9
              obtain ⟨r', hlp, hx1⟩ := take_end rfl htk
              have e1 := (Prod.mk.inj hx1).1
              have e2 := (Prod.mk.inj hx1).2
              clear hx1
              have HT3 : Hid (T.drop j = 0 :: timesGo [y1, y2] (p.drop (j + 1))) := by
                show _ = _
                rw [HT2.out, timesGo, if_neg (by simp), if_pos rfl, if_pos (by simp)]
                rfl
              have HT4 : Hid (T.drop (j + 1) = timesGo [y1, y2] (p.drop (j + 1))) := drop_next HT3.out
              have HM5 : Hid (Tm w (wr.alloc (.cells #[.int .i64 9, .int .i64 n, .int .i64 v, .int .i64 wt, .slice ca l.length cc] 31)) T (j + 1) (.slice (some ⟨g, 0, none⟩) 2 cp) [y1, y2]) := Tm.cut (x := x) (r := [y1, y2]) ((HM.out.keep KA).skip HT3.out)
              have HB2 : Hid (Bds [y1, y2]) := HB.out.2.2
              have HLE : Hid (lp1.length ≤ 3 ∧ ([y1, y2] : List Int).length = lp1.length + 1) := by
                have h1 : 3 = lp.length + 1 := HSL.out
                rw [hlp, ← e2, List.length_cons] at h1
                show lp1.length ≤ 3 ∧ 2 = lp1.length + 1
                omega
              have b6 : (2 : Int) ≤ (cp : Int) := by omega
              clear htk HT2 hlp HB e1 e2
              go_wp2_with fail
              go_roundg g3'
              case rel => exact ⟨j + 1, m1, lp1, [y1, y2], by go_num, by omega, HU2, HLE.out.1, HLE.out.2, HB2, HT4, HM5⟩
              case measure => omega
            · have k9 : (k != 9) = true := by simp [h9]
              obtain ⟨ht1, hx1⟩ := take_plain h8 h9 htk
              simp only at hx1
              subst hx1
              have HT3 : Hid (T.drop j = x :: timesGo [x, y1, y2] (p.drop (j + 1))) := by show _ = _; rw [HT2.out, timesGo, if_neg h8, if_neg h9]; rfl
              have HT4 : Hid (T.drop (j + 1) = timesGo [x, y1, y2] (p.drop (j + 1))) := drop_next HT3.out
              have HM5 : Hid (Tm w ((wr.setCell ⟨w.heap.size, j, none⟩ (.int .i64 x)).alloc (.cells #[.int .i64 k, .int .i64 n, .int .i64 v, .int .i64 wt, .slice ca l.length cc] 31)) T (j + 1) (.slice (some ⟨g, 0, none⟩) 3 cp) [x, y1, y2]) := (HM.out.put HT3.out).keep ((Kept.refl _).alloc _)
              have hall := HM.out.all
              have cz : wr.cell? ⟨w.heap.size, j, none⟩ = some (.int .i64 0) := by
                unfold IRow at hall
                rw [fill_len T j (by omega)] at hall
                rw [hall.cellAt j (by omega), List.getElem?_map, fill_get (by omega)]
                rfl
              have fz : wr.frozen? ⟨w.heap.size, j, none⟩ = false := by
                unfold IRow at hall
                rw [fill_len T j (by omega)] at hall
                exact hall.frozenAt j
              clear htk HT2 hall ht1
              have b7 : (j : Int) < (T.length : Int) := by omega
              go_wp2_with fail
              go_roundg g3'
              case rel => exact ⟨j + 1, m1, lp1, [x, y1, y2], by go_num, by omega, HU2, HL, HSL, HB, HT4, HM5⟩
              case measure => omega
        · have hrl : ([x, y1, y2, y3] : List Int).reverse.length = 4 := by simp
          obtain ⟨g, cp, hv4, hcp, hg1, hg2⟩ := HM.out.rnd.some (by rw [hrl]; omega)
          rw [hrl] at hv4 hcp
          subst hv4
          have cx : wr.cell? ⟨g, 3, none⟩ = some (.int .i64 x) := by
            have h := HM.out.rnd
            exact IRow.cell (c := cp) (l := ([x, y1, y2, y3] : List Int).reverse) (by rw [hrl]; exact h) 3 x (by simp)
          have hsw := (World.ownsRow.lt HM.out.all w.heap.size rfl).2
          have hgw : ¬ wr.heap.size = g := by omega
          by_cases h8 : k = 8
          · subst h8
            obtain ⟨hl3, hx1⟩ := take_loop rfl htk
            have h2 := HSL.out
            simp only [List.length_cons, List.length_nil] at h2
            omega
          · have k8 : (k == 8) = false := beq_eq_false_iff_ne.2 h8
            have KA := ((Kept.refl wr).alloc (.cells #[.int .i64 k, .int .i64 n, .int .i64 v, .int .i64 wt, .slice ca l.length cc] 31))
            by_cases h9 : k = 9
            · subst h9
              obtain ⟨r', hlp, hx1⟩ := take_end rfl htk
              have e1 := (Prod.mk.inj hx1).1
              have e2 := (Prod.mk.inj hx1).2
              clear hx1
              have HT3 : Hid (T.drop j = 0 :: timesGo [y1, y2, y3] (p.drop (j + 1))) := by
                show _ = _
                rw [HT2.out, timesGo, if_neg (by simp), if_pos rfl, if_pos (by simp)]
                rfl
              have HT4 : Hid (T.drop (j + 1) = timesGo [y1, y2, y3] (p.drop (j + 1))) := drop_next HT3.out
              have HM5 : Hid (Tm w (wr.alloc (.cells #[.int .i64 9, .int .i64 n, .int .i64 v, .int .i64 wt, .slice ca l.length cc] 31)) T (j + 1) (.slice (some ⟨g, 0, none⟩) 3 cp) [y1, y2, y3]) := Tm.cut (x := x) (r := [y1, y2, y3]) ((HM.out.keep KA).skip HT3.out)
              have HB2 : Hid (Bds [y1, y2, y3]) := HB.out.2.2
              have HLE : Hid (lp1.length ≤ 3 ∧ ([y1, y2, y3] : List Int).length = lp1.length + 1) := by
                have h1 : 4 = lp.length + 1 := HSL.out
                rw [hlp, ← e2, List.length_cons] at h1
                show lp1.length ≤ 3 ∧ 3 = lp1.length + 1
                omega
              have b6 : (3 : Int) ≤ (cp : Int) := by omega
              clear htk HT2 hlp HB e1 e2
              go_wp2_with fail
              go_roundg g3'
              case rel => exact ⟨j + 1, m1, lp1, [y1, y2, y3], by go_num, by omega, HU2, HLE.out.1, HLE.out.2, HB2, HT4, HM5⟩
              case measure => omega
            · have k9 : (k != 9) = true := by simp [h9]
              obtain ⟨ht1, hx1⟩ := take_plain h8 h9 htk
              simp only at hx1
              subst hx1
              have HT3 : Hid (T.drop j = x :: timesGo [x, y1, y2, y3] (p.drop (j + 1))) := by show _ = _; rw [HT2.out, timesGo, if_neg h8, if_neg h9]; rfl
              have HT4 : Hid (T.drop (j + 1) = timesGo [x, y1, y2, y3] (p.drop (j + 1))) := drop_next HT3.out
              have HM5 : Hid (Tm w ((wr.setCell ⟨w.heap.size, j, none⟩ (.int .i64 x)).alloc (.cells #[.int .i64 k, .int .i64 n, .int .i64 v, .int .i64 wt, .slice ca l.length cc] 31)) T (j + 1) (.slice (some ⟨g, 0, none⟩) 4 cp) [x, y1, y2, y3]) := (HM.out.put HT3.out).keep ((Kept.refl _).alloc _)
              have hall := HM.out.all
              have cz : wr.cell? ⟨w.heap.size, j, none⟩ = some (.int .i64 0) := by
                unfold IRow at hall
                rw [fill_len T j (by omega)] at hall
                rw [hall.cellAt j (by omega), List.getElem?_map, fill_get (by omega)]
                rfl
              have fz : wr.frozen? ⟨w.heap.size, j, none⟩ = false := by
                unfold IRow at hall
                rw [fill_len T j (by omega)] at hall
                exact hall.frozenAt j
              clear htk HT2 hall ht1
              have b7 : (j : Int) < (T.length : Int) := by omega
              go_wp2_with fail
              go_roundg g3'
              case rel => exact ⟨j + 1, m1, lp1, [x, y1, y2, y3], by go_num, by omega, HU2, HL, HSL, HB, HT4, HM5⟩
              case measure => omega
        · simp at hs4
    · have b1 : ¬ (j : Int) < (p.length : Int) := by omega
      go_wp2_with fail
      go_ret
      refine ⟨_, rfl, ?_, HM.out.kept⟩
      have h := HM.out.all
      have e : fillTo T j = T := by unfold fillTo; rw [List.take_of_length_le (by omega), show T.length - j = 0 by omega]; simp
      rw [e, hTl] at h
      exact h
end Go.Proofs.YtembbhbbmkijcaaDoor
