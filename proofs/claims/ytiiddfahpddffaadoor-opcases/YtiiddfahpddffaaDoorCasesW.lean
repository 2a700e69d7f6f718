/- OpCases, walked. -/
import Derived.Test.YtiiddfahpddffaaDoorKnown
import Derived.Test.YtiiddfahpddffaaDoorAnyW
namespace Go.Proofs.YtiiddfahpddffaaDoor
open Go.RowKit

/-- The cases that the law makes. -/
def csL : Nat → List CaseD
  | 0 => []
  | k + 1 => csL k ++ [⟨k % 2 == 0, (k : Int), if k % 2 = 0 then (k : Int) - 3 else 0⟩]
theorem csL_len : ∀ k, (csL k).length = k
  | 0 => rfl
  | k + 1 => by rw [csL, List.length_append, csL_len k]; rfl
theorem cs_e {k : Nat} (h : k = 1 ∨ k = 2 ∨ k = 3 ∨ k = 4) : casesE [] (csL k) = 0 := by
  rcases h with rfl | rfl | rfl | rfl <;> decide
def csT (k i : Nat) : List CaseD := (csL k).set i ⟨((csL k).getD i zeroC).send, ((i - 1 : Nat) : Int), ((csL k).getD i zeroC).v⟩
theorem cs_t {k i : Nat} (h : (k = 2 ∧ i = 1) ∨ (k = 3 ∧ i = 1) ∨ (k = 3 ∧ i = 2) ∨ (k = 4 ∧ i = 1) ∨ (k = 4 ∧ i = 2) ∨ (k = 4 ∧ i = 3)) : casesE [] (csT k i) = 6 := by
  rcases h with ⟨rfl, rfl⟩ | ⟨rfl, rfl⟩ | ⟨rfl, rfl⟩ | ⟨rfl, rfl⟩ | ⟨rfl, rfl⟩ | ⟨rfl, rfl⟩ <;> decide
theorem cs_chan {k i : Nat} (h : (k = 2 ∧ i = 1) ∨ (k = 3 ∧ i = 1) ∨ (k = 3 ∧ i = 2) ∨ (k = 4 ∧ i = 1) ∨ (k = 4 ∧ i = 2) ∨ (k = 4 ∧ i = 3)) : ((csL k).getD (i - 1) zeroC).chan = ((i - 1 : Nat) : Int) := by
  rcases h with ⟨rfl, rfl⟩ | ⟨rfl, rfl⟩ | ⟨rfl, rfl⟩ | ⟨rfl, rfl⟩ | ⟨rfl, rfl⟩ | ⟨rfl, rfl⟩ <;> decide
theorem flatC_chan (row : List CaseD) (i : Nat) (x : Int) (h : i < row.length) :
    (flatC row).set (i * 3 + 1) (.int .i64 x) = flatC (row.set i ⟨(row.getD i zeroC).send, x, (row.getD i zeroC).v⟩) := by
  induction row generalizing i with
  | nil => simp at h
  | cons y r ih =>
    cases i with
    | zero => simp [flatC, caseV]
    | succ i =>
      have := ih i (by simpa using h)
      simp only [flatC, List.set_cons_succ, List.flatMap_cons, List.getD_cons_succ] at this ⊢
      rw [← this]
      rw [List.set_append_right (h := by simp [caseV]; omega)]
      simp only [caseV, List.length_cons, List.length_nil]
      rw [show (i + 1) * 3 + 1 - (0 + 1 + 1 + 1) = i * 3 + 1 from by omega]
theorem CRow.chan {e : TypeId} {B : Nat} {w : World} {g c : Nat} {l : List CaseD} (h : CRow e B w (.slice (some ⟨g, 0, none⟩) l.length c) l) (i : Nat) (x : Int) (hi : i < l.length) :
    CRow e B (w.setCell ⟨g, i * 3 + 1, none⟩ (.int .i64 x)) (.slice (some ⟨g, 0, none⟩) l.length c) (l.set i ⟨(l.getD i zeroC).send, x, (l.getD i zeroC).v⟩) := by
  unfold CRow
  rw [List.length_set, ← flatC_chan l i x hi]
  exact (World.ownsRow.stored h (i * 3 + 1) _).1
/-- What there is in a round: the op, its cases. -/
structure Cm (w wr : World) (ob : Nat) (wt : Int) (sv : Value) (l : List CaseD) : Prop where
  op : Box w.heap.size wr 29 ob [.int .i64 7, .int .i64 0, .int .i64 0, .int .i64 wt, sv]
  row : CRow 46 w.heap.size wr sv l
  far : ∀ q, sv.ownBlock = some q → ob < q
  kept : Kept w wr
theorem Cm.app {w wr wa w' : World} {ob : Nat} {wt : Int} {sv : Value} {l l' : List CaseD} {g n c : Nat} {o1 o2 : Obj} (h : Cm w wr ob wt sv l) (ha : wa = (wr.alloc o1).alloc o2) (gr : wa.grownBy w' sv.ownBlock) (at5 : sv.ownBlock = some g ∨ (wr.alloc o1).heap.size < g) (r : CRow 46 w.heap.size w' (.slice (some ⟨g, 0, none⟩) n c) l') :
    Cm w (w'.setCell ⟨ob, 4, none⟩ (.slice (some ⟨g, 0, none⟩) n c)) ob wt (.slice (some ⟨g, 0, none⟩) n c) l' ∧ w'.cell? ⟨ob, 4, none⟩ = some sv ∧ w'.frozen? ⟨ob, 4, none⟩ = false ∧ ob < w'.heap.size := by
  subst ha
  have hl := h.op.lt
  have t : Turns (fun k => sv.ownBlock = some k) wr w' := (((Turns.refl _ wr).alloc o1).alloc o2).trans (Turns.grown gr (fun k e => e))
  have b2 := h.op.turns t (fun e => by have := h.far _ e; omega)
  have hg : ob < g := by
    rcases at5 with h1 | h1
    · exact h.far _ h1
    · have : (wr.alloc o1).heap.size = wr.heap.size + 1 := by simp
      omega
  have t2 := turn_set w' ob 4 (.slice (some ⟨g, 0, none⟩) n c)
  refine ⟨⟨b2.set 4 _, r.turns t2 (fun q hq e => by simp [Value.ownBlock] at hq; omega), fun q hq => by simp [Value.ownBlock] at hq; omega, t2.kept (t.kept h.kept (fun i hi => (World.ownsRow.lt h.row i hi).1)) (fun i hi => by omega)⟩, b2.cell 4 (by simp), b2.frozen 4, b2.lt.2⟩
theorem Cm.kept' {w wr w' : World} {ob : Nat} {wt : Int} {sv : Value} {l : List CaseD} (h : Cm w wr ob wt sv l) (t : Kept wr w') : Cm w w' ob wt sv l :=
  ⟨h.op.kept t, h.row.kept t, h.far, h.kept.trans t⟩
theorem cs_arg {k : Nat} {wt : Int} (h : wt < -1 ∨ 1000 < wt) : checkD ⟨7, 0, 0, wt, csL k⟩ = 1 := by
  refine check_arg rfl ?_
  rw [Bool.eq_false_iff]
  intro hh
  simp [takesB, shapeOf] at hh
  omega
theorem cs_takes {wt : Int} {len : Nat} (h1 : -1 ≤ wt) (h2 : wt ≤ 1000) : takesB (shapeOf 7) 0 0 wt len = true := by
  simp [takesB, shapeOf]
  omega
theorem cs_many {k : Nat} {wt : Int} (h1 : -1 ≤ wt) (h2 : wt ≤ 1000) (hk : k = 0 ∨ 4 < k) : checkD ⟨7, 0, 0, wt, csL k⟩ = 18 := check_many rfl (cs_takes h1 h2) rfl (by rw [csL_len]; exact hk)
theorem cs_ok {l : List CaseD} {wt : Int} (h1 : -1 ≤ wt) (h2 : wt ≤ 1000) (hl : ¬ (l.length = 0 ∨ 4 < l.length)) : checkD ⟨7, 0, 0, wt, l⟩ = casesE [] l := check_pick rfl (cs_takes h1 h2) hl
theorem cs_in {k : Nat} (hk : k ≤ 6) : ∀ c ∈ csL k, in64 c.chan ∧ in64 c.v := by
  have : k = 0 ∨ k = 1 ∨ k = 2 ∨ k = 3 ∨ k = 4 ∨ k = 5 ∨ k = 6 := by omega
  intro c hc
  rcases this with rfl | rfl | rfl | rfl | rfl | rfl | rfl <;> simp only [csL, List.nil_append, List.cons_append, List.mem_cons, List.not_mem_nil, or_false] at hc
  · rcases hc with rfl
    exact ⟨⟨by decide, by decide⟩, ⟨by decide, by decide⟩⟩
  · rcases hc with rfl | rfl <;> exact ⟨⟨by decide, by decide⟩, ⟨by decide, by decide⟩⟩
  · rcases hc with rfl | rfl | rfl <;> exact ⟨⟨by decide, by decide⟩, ⟨by decide, by decide⟩⟩
  · rcases hc with rfl | rfl | rfl | rfl <;> exact ⟨⟨by decide, by decide⟩, ⟨by decide, by decide⟩⟩
  · rcases hc with rfl | rfl | rfl | rfl | rfl <;> exact ⟨⟨by decide, by decide⟩, ⟨by decide, by decide⟩⟩
  · rcases hc with rfl | rfl | rfl | rfl | rfl | rfl <;> exact ⟨⟨by decide, by decide⟩, ⟨by decide, by decide⟩⟩

set_option maxHeartbeats 16000000 in
set_option maxRecDepth 100000 in
theorem cases_any (nn tw wt : Int) (n0 : 0 ≤ nn) (n1 : nn ≤ 255) (t0 : 0 ≤ tw) (t1 : tw ≤ 255) (w0 : -32768 ≤ wt) (w1 : wt ≤ 32767) (w : World) (hr : Rdy w) :
    Calls Tryd.prog 6 #[.int .u8 nn, .int .u8 tw, .int .i16 wt] w fun e w' => e = .returned (.bool true) ∧ Kept w w' := by
  obtain ⟨K, hK⟩ : ∃ K : Nat, nn % 7 = (K : Int) := ⟨(nn % 7).toNat, by omega⟩
  have hK6 : K ≤ 6 := by omega
  have HR : Hid (Rdy w) := hr
  clear hr
  go_enter Tryd.func6, Tryd.ntmps6
  go_wp2_with fail
  refine (known_true w HR.out).mono ?_
  rintro e wk ⟨rfl, tk⟩
  have M0 : Hid (Cm w (wk.alloc (.cells #[.int .i64 7, .int .i64 0, .int .i64 0, .int .i64 wt, .slice none 0 0] 29)) wk.heap.size wt (.slice none 0 0) []) := ⟨box_new w.heap.size wk 29 [.int .i64 7, .int .i64 0, .int .i64 0, .int .i64 wt, .slice none 0 0] tk.size (by simp), CRow.nil _ _ _, fun q hq => by simp [Value.ownBlock] at hq, tk.alloc _⟩
  go_wp2_with fail
  clear hK
  go_loopg [9] K (fun gk i wr => ∃ (j : Nat) (sv : Value), i = .int .i64 j ∧ j + gk = K ∧ Hid (Cm w wr wk.heap.size wt sv (csL j)))
  case atStart => exact ⟨0, _, rfl, by omega, M0⟩
  case round =>
    obtain ⟨j, sv, rfl, hj, HM⟩ := hrel
    have lo := HM.out.op.lt.2
    by_cases hjk : j < K
    · obtain ⟨g3, rfl⟩ : ∃ g, gk = g + 1 := ⟨gk - 1, by omega⟩
      have fo : wr.cell? ⟨wk.heap.size, 4, none⟩ = some sv := HM.out.op.cell 4 (by simp)
      have b1 : (j : Int) < (K : Int) := by omega
      have hjj : j = 0 ∨ j = 1 ∨ j = 2 ∨ j = 3 ∨ j = 4 ∨ j = 5 := by omega
      rcases hjj with rfl | rfl | rfl | rfl | rfl | rfl
      · go_wp2_with (at_builtin; refine wpList_append_case kP _ (by rfl) _ _ rfl w.heap.size sv (csL 0) true 0 (-3) (wr.alloc (.cells #[.bool true, .int .i64 0, .int .i64 (-3)] 46)) rfl (by rfl) (wr.heap.size + 1) (by simp) (by rfl) (HM.out.row.kept ((Kept.refl _).alloc _)) (by simp [csL_len]) (le_alloc _ HM.out.kept.size) ?_; intro g5 c5 w5 R5 gr5 at5; have M5 := HM.out.app rfl gr5 at5 R5; have y1 := M5.2.1; have y2 := M5.2.2.1; have y3 := M5.2.2.2)
        go_roundg g3
        case rel => exact ⟨1, _, by go_num, by omega, M5.1⟩
        case measure => omega
      · go_wp2_with (at_builtin; refine wpList_append_case kP _ (by rfl) _ _ rfl w.heap.size sv (csL 1) false 1 0 (wr.alloc (.cells #[.bool false, .int .i64 1, .int .i64 0] 46)) rfl (by rfl) (wr.heap.size + 1) (by simp) (by rfl) (HM.out.row.kept ((Kept.refl _).alloc _)) (by simp [csL_len]) (le_alloc _ HM.out.kept.size) ?_; intro g5 c5 w5 R5 gr5 at5; have M5 := HM.out.app rfl gr5 at5 R5; have y1 := M5.2.1; have y2 := M5.2.2.1; have y3 := M5.2.2.2)
        go_roundg g3
        case rel => exact ⟨2, _, by go_num, by omega, M5.1⟩
        case measure => omega
      · go_wp2_with (at_builtin; refine wpList_append_case kP _ (by rfl) _ _ rfl w.heap.size sv (csL 2) true 2 (-1) (wr.alloc (.cells #[.bool true, .int .i64 2, .int .i64 (-1)] 46)) rfl (by rfl) (wr.heap.size + 1) (by simp) (by rfl) (HM.out.row.kept ((Kept.refl _).alloc _)) (by simp [csL_len]) (le_alloc _ HM.out.kept.size) ?_; intro g5 c5 w5 R5 gr5 at5; have M5 := HM.out.app rfl gr5 at5 R5; have y1 := M5.2.1; have y2 := M5.2.2.1; have y3 := M5.2.2.2)
        go_roundg g3
        case rel => exact ⟨3, _, by go_num, by omega, M5.1⟩
        case measure => omega
      · go_wp2_with (at_builtin; refine wpList_append_case kP _ (by rfl) _ _ rfl w.heap.size sv (csL 3) false 3 0 (wr.alloc (.cells #[.bool false, .int .i64 3, .int .i64 0] 46)) rfl (by rfl) (wr.heap.size + 1) (by simp) (by rfl) (HM.out.row.kept ((Kept.refl _).alloc _)) (by simp [csL_len]) (le_alloc _ HM.out.kept.size) ?_; intro g5 c5 w5 R5 gr5 at5; have M5 := HM.out.app rfl gr5 at5 R5; have y1 := M5.2.1; have y2 := M5.2.2.1; have y3 := M5.2.2.2)
        go_roundg g3
        case rel => exact ⟨4, _, by go_num, by omega, M5.1⟩
        case measure => omega
      · go_wp2_with (at_builtin; refine wpList_append_case kP _ (by rfl) _ _ rfl w.heap.size sv (csL 4) true 4 1 (wr.alloc (.cells #[.bool true, .int .i64 4, .int .i64 1] 46)) rfl (by rfl) (wr.heap.size + 1) (by simp) (by rfl) (HM.out.row.kept ((Kept.refl _).alloc _)) (by simp [csL_len]) (le_alloc _ HM.out.kept.size) ?_; intro g5 c5 w5 R5 gr5 at5; have M5 := HM.out.app rfl gr5 at5 R5; have y1 := M5.2.1; have y2 := M5.2.2.1; have y3 := M5.2.2.2)
        go_roundg g3
        case rel => exact ⟨5, _, by go_num, by omega, M5.1⟩
        case measure => omega
      · go_wp2_with (at_builtin; refine wpList_append_case kP _ (by rfl) _ _ rfl w.heap.size sv (csL 5) false 5 0 (wr.alloc (.cells #[.bool false, .int .i64 5, .int .i64 0] 46)) rfl (by rfl) (wr.heap.size + 1) (by simp) (by rfl) (HM.out.row.kept ((Kept.refl _).alloc _)) (by simp [csL_len]) (le_alloc _ HM.out.kept.size) ?_; intro g5 c5 w5 R5 gr5 at5; have M5 := HM.out.app rfl gr5 at5 R5; have y1 := M5.2.1; have y2 := M5.2.2.1; have y3 := M5.2.2.2)
        go_roundg g3
        case rel => exact ⟨6, _, by go_num, by omega, M5.1⟩
        case measure => omega
    · have b1 : ¬ (j : Int) < (K : Int) := by omega
      obtain rfl : j = K := by omega
      have HRK : Hid (Rdy wr) := HR.out.kept HM.out.kept
      obtain ⟨ay, cy, hsv, hcy, hay⟩ := HM.out.row.at
      rw [csL_len] at hsv hcy hay
      subst hsv
      have HAY : Hid (AtC wr ay j (csL j)) := hay
      clear hay
      have x0 : wr.cell? ⟨wk.heap.size, 0, none⟩ = some (.int .i64 7) := HM.out.op.cell 0 (by simp)
      have x1 : wr.cell? ⟨wk.heap.size, 1, none⟩ = some (.int .i64 0) := HM.out.op.cell 1 (by simp)
      have x2 : wr.cell? ⟨wk.heap.size, 2, none⟩ = some (.int .i64 0) := HM.out.op.cell 2 (by simp)
      have x3 : wr.cell? ⟨wk.heap.size, 3, none⟩ = some (.int .i64 wt) := HM.out.op.cell 3 (by simp)
      have x4 : wr.cell? ⟨wk.heap.size, 4, none⟩ = some (.slice ay j cy) := HM.out.op.cell 4 (by simp)
      have xl := HM.out.op.lt.2
      have hck := check_any 7 0 0 wt ay j cy (csL j) wr HRK.out HAY.out (by omega) hcy
      by_cases hb : wt < -1 ∨ 1000 < wt
      · rw [cs_arg hb] at hck
        have hway : wt < -1 ∨ (¬ wt < -1 ∧ 1000 < wt) := by omega
        clear hb
        rcases hway with h | ⟨h, h2⟩
        · go_wp2_with fail
          refine hck.mono ?_
          rintro e w2 ⟨rfl, t2⟩
          go_wp2_with fail
          go_ret
          exact ⟨rfl, HM.out.kept.trans t2⟩
        · go_wp2_with fail
          refine hck.mono ?_
          rintro e w2 ⟨rfl, t2⟩
          go_wp2_with fail
          go_ret
          exact ⟨rfl, HM.out.kept.trans t2⟩
      · have hb1 : -1 ≤ wt := by omega
        have hb2 : wt ≤ 1000 := by omega
        have hb3 : ¬ wt < -1 := by omega
        have hb4 : ¬ 1000 < wt := by omega
        by_cases hk : j = 0 ∨ 4 < j
        · rw [cs_many hb1 hb2 hk] at hck
          have hway : (j : Int) < 1 ∨ (¬ (j : Int) < 1 ∧ 4 < (j : Int)) := by omega
          clear hb hk
          rcases hway with h | ⟨h, h2⟩
          · go_wp2_with fail
            refine hck.mono ?_
            rintro e w2 ⟨rfl, t2⟩
            go_wp2_with fail
            go_ret
            exact ⟨rfl, HM.out.kept.trans t2⟩
          · go_wp2_with fail
            refine hck.mono ?_
            rintro e w2 ⟨rfl, t2⟩
            go_wp2_with fail
            go_ret
            exact ⟨rfl, HM.out.kept.trans t2⟩
        · have hkk : j = 1 ∨ j = 2 ∨ j = 3 ∨ j = 4 := by omega
          have hz : checkD ⟨7, 0, 0, wt, csL j⟩ = 0 := by
            rw [cs_ok hb1 hb2 (by rw [csL_len]; omega)]
            exact cs_e hkk
          have HZ : Hid (checkD ⟨7, 0, 0, wt, csL j⟩ = 0) := hz
          have HI : Hid (In64 ⟨7, 0, 0, wt, csL j⟩) := ⟨⟨by simp, by simp⟩, ⟨by simp, by simp⟩, ⟨by simp, by simp⟩, ⟨by show _ ≤ wt; omega, by show wt ≤ _; omega⟩, cs_in (by omega)⟩
          have HP := parse_text HZ.out HI.out
          have HLN := text_len HZ.out HI.out
          rw [hz] at hck
          have j1 : ¬ (j : Int) < 1 := by omega
          have j4 : ¬ 4 < (j : Int) := by omega
          clear hb hk hz
          go_wp2_with fail
          refine hck.mono ?_
          rintro e w2 ⟨rfl, t2⟩
          have M2 := HM.out.kept' t2
          clear x0 x1 x2 x3 x4 xl
          have x0 : w2.cell? ⟨wk.heap.size, 0, none⟩ = some (.int .i64 7) := M2.op.cell 0 (by simp)
          have x1 : w2.cell? ⟨wk.heap.size, 1, none⟩ = some (.int .i64 0) := M2.op.cell 1 (by simp)
          have x2 : w2.cell? ⟨wk.heap.size, 2, none⟩ = some (.int .i64 0) := M2.op.cell 2 (by simp)
          have x3 : w2.cell? ⟨wk.heap.size, 3, none⟩ = some (.int .i64 wt) := M2.op.cell 3 (by simp)
          have x4 : w2.cell? ⟨wk.heap.size, 4, none⟩ = some (.slice ay j cy) := M2.op.cell 4 (by simp)
          have xl := M2.op.lt.2
          go_wp2_with fail
          refine (optext_any 7 0 0 wt ay j cy (csL j) w2 (HR.out.kept M2.kept) (HAY.out.kept t2) (by omega) HZ.out HI.out).mono ?_
          rintro e w3 ⟨rfl, t3⟩
          have M3 := M2.kept' t3
          clear x0 x1 x2 x3 x4 xl
          have x0 : w3.cell? ⟨wk.heap.size, 0, none⟩ = some (.int .i64 7) := M3.op.cell 0 (by simp)
          have x1 : w3.cell? ⟨wk.heap.size, 1, none⟩ = some (.int .i64 0) := M3.op.cell 1 (by simp)
          have x2 : w3.cell? ⟨wk.heap.size, 2, none⟩ = some (.int .i64 0) := M3.op.cell 2 (by simp)
          have x3 : w3.cell? ⟨wk.heap.size, 3, none⟩ = some (.int .i64 wt) := M3.op.cell 3 (by simp)
          have x4 : w3.cell? ⟨wk.heap.size, 4, none⟩ = some (.slice ay j cy) := M3.op.cell 4 (by simp)
          have xl := M3.op.lt.2
          have hpa := parse_any (textD ⟨7, 0, 0, wt, csL j⟩) HLN w3 (HR.out.kept M3.kept)
          rw [HP] at hpa
          clear HP HLN
          go_wp2_with fail
          refine hpa.mono ?_
          rintro e w4 ⟨svp, rfl, RP, t4⟩
          obtain ⟨ap, cp, hsp, hcp, hap⟩ := RP.at
          simp only [csL_len] at hsp hcp hap
          subst hsp
          have M4 := M3.kept' t4
          have M5 := M4.kept' ((Kept.refl _).alloc (.cells #[.int .i64 7, .int .i64 0, .int .i64 0, .int .i64 wt, .slice ap j cp] 29))
          have HAP : Hid (AtC w4 ap j (csL j)) := hap
          have K34 : Kept wr (w4.alloc (.cells #[.int .i64 7, .int .i64 0, .int .i64 0, .int .i64 wt, .slice ap j cp] 29)) := ((t2.trans t3).trans t4).alloc _
          clear hap RP hpa
          clear x0 x1 x2 x3 x4 xl
          have x0 : (w4.alloc (.cells #[.int .i64 7, .int .i64 0, .int .i64 0, .int .i64 wt, .slice ap j cp] 29)).cell? ⟨wk.heap.size, 0, none⟩ = some (.int .i64 7) := M5.op.cell 0 (by simp)
          have x1 : (w4.alloc (.cells #[.int .i64 7, .int .i64 0, .int .i64 0, .int .i64 wt, .slice ap j cp] 29)).cell? ⟨wk.heap.size, 1, none⟩ = some (.int .i64 0) := M5.op.cell 1 (by simp)
          have x2 : (w4.alloc (.cells #[.int .i64 7, .int .i64 0, .int .i64 0, .int .i64 wt, .slice ap j cp] 29)).cell? ⟨wk.heap.size, 2, none⟩ = some (.int .i64 0) := M5.op.cell 2 (by simp)
          have x3 : (w4.alloc (.cells #[.int .i64 7, .int .i64 0, .int .i64 0, .int .i64 wt, .slice ap j cp] 29)).cell? ⟨wk.heap.size, 3, none⟩ = some (.int .i64 wt) := M5.op.cell 3 (by simp)
          have x4 : (w4.alloc (.cells #[.int .i64 7, .int .i64 0, .int .i64 0, .int .i64 wt, .slice ap j cp] 29)).cell? ⟨wk.heap.size, 4, none⟩ = some (.slice ay j cy) := M5.op.cell 4 (by simp)
          have xl := M5.op.lt.2
          go_wp2_with fail
          refine (same_any 7 0 0 wt 7 0 0 wt ap ay j j cp cy (csL j) (csL j) _ (HAP.out.kept ((Kept.refl _).alloc _)) (HAY.out.kept K34) (by omega)).mono ?_
          rintro e w5 ⟨rfl, t5⟩
          rw [sameD_self]
          have M6 := M5.kept' t5
          clear x0 x1 x2 x3 x4 xl
          have x0 : w5.cell? ⟨wk.heap.size, 0, none⟩ = some (.int .i64 7) := M6.op.cell 0 (by simp)
          have x1 : w5.cell? ⟨wk.heap.size, 1, none⟩ = some (.int .i64 0) := M6.op.cell 1 (by simp)
          have x2 : w5.cell? ⟨wk.heap.size, 2, none⟩ = some (.int .i64 0) := M6.op.cell 2 (by simp)
          have x3 : w5.cell? ⟨wk.heap.size, 3, none⟩ = some (.int .i64 wt) := M6.op.cell 3 (by simp)
          have x4 : w5.cell? ⟨wk.heap.size, 4, none⟩ = some (.slice ay j cy) := M6.op.cell 4 (by simp)
          have xl := M6.op.lt.2
          go_wp2_with fail
          refine (waits_any 7 0 0 wt ay j cy (csL j) w5 (HR.out.kept M6.kept)).mono ?_
          rintro e w6 ⟨rfl, t6⟩
          rw [show waitsD ⟨7, 0, 0, wt, csL j⟩ = (wt != 0) from rfl]
          have M7 := M6.kept' t6
          have K36 := (K34.trans t5).trans t6
          clear x0 x1 x2 x3 x4 xl
          have x0 : w6.cell? ⟨wk.heap.size, 0, none⟩ = some (.int .i64 7) := M7.op.cell 0 (by simp)
          have x1 : w6.cell? ⟨wk.heap.size, 1, none⟩ = some (.int .i64 0) := M7.op.cell 1 (by simp)
          have x2 : w6.cell? ⟨wk.heap.size, 2, none⟩ = some (.int .i64 0) := M7.op.cell 2 (by simp)
          have x3 : w6.cell? ⟨wk.heap.size, 3, none⟩ = some (.int .i64 wt) := M7.op.cell 3 (by simp)
          have x4 : w6.cell? ⟨wk.heap.size, 4, none⟩ = some (.slice ay j cy) := M7.op.cell 4 (by simp)
          have xl := M7.op.lt.2
          by_cases hk2 : j = 1
          · subst hk2
            go_wp2_with fail
            go_ret
            exact ⟨rfl, M7.kept⟩
          · have j2 : ¬ (j : Int) < 2 := by omega
            have hrow := M7.row
            obtain ⟨gq, cq, hgq⟩ := own_form hrow (by intro h; simp at h; omega)
            simp only [Value.slice.injEq] at hgq
            obtain ⟨rfl, -, -⟩ := hgq
            have HROW : Hid (CRow 46 w.heap.size w6 (.slice (some ⟨gq, 0, none⟩) (csL j).length cy) (csL j)) := by show CRow _ _ _ _ _; rw [csL_len]; exact hrow
            have hgl := (World.ownsRow.lt hrow gq rfl)
            have hgo := M7.far gq rfl
            have hfz := fun q => World.ownsRow.frozenAt HROW.out q
            clear hrow
            have hpairs : (j = 2 ∧ tw % 1 = 0) ∨ (j = 3 ∧ tw % 2 = 0) ∨ (j = 3 ∧ tw % 2 = 1) ∨ (j = 4 ∧ tw % 3 = 0) ∨ (j = 4 ∧ tw % 3 = 1) ∨ (j = 4 ∧ tw % 3 = 2) := by omega
            rcases hpairs with ⟨rfl, ht⟩ | ⟨rfl, ht⟩ | ⟨rfl, ht⟩ | ⟨rfl, ht⟩ | ⟨rfl, ht⟩ | ⟨rfl, ht⟩
            · have htm : tw.tmod 1 = 0 := by rw [Int.tmod_eq_emod_of_nonneg t0]; exact ht
              obtain ⟨b0, f0, e0, -, q1, -⟩ := (HAY.out.kept K36).2 0 (by decide)
              obtain ⟨b3, f3, e3, -, p1, -⟩ := (HAY.out.kept K36).2 1 (by decide)
              cases e0
              cases e3
              simp [csL] at q1 p1
              have fz := hfz (1 * 3 + 1)
              simp at fz
              clear hfz hj hjk hkk ht hk2 j1 j2 j4 hK6 hcy
              go_wp2_with fail
              go_region
              have T7 : Turns (fun k => k = gq) w6 ((w6.setCell ⟨gq, 4, none⟩ (.int .i64 0)).drew) := (turn_set w6 gq 4 (.int .i64 0)).drew
              have R7 : CRow 46 w.heap.size ((w6.setCell ⟨gq, 4, none⟩ (.int .i64 0)).drew) (.slice (some ⟨gq, 0, none⟩) 2 cy) (csT 2 1) := (HROW.out.chan 1 0 (by decide)).kept ((Kept.refl _).drew)
              generalize (w6.setCell ⟨gq, 4, none⟩ (.int .i64 0)).drew = w7 at T7 R7 ⊢
              have X7 := M7.op.turns T7 (by omega)
              have K7 : Kept w w7 := T7.kept M7.kept (fun q hq => by have := hgl.1; omega)
              clear x0 x1 x2 x3 x4 xl q1 p1 fz htm
              have x0 : w7.cell? ⟨wk.heap.size, 0, none⟩ = some (.int .i64 7) := X7.cell 0 (by simp)
              have x1 : w7.cell? ⟨wk.heap.size, 1, none⟩ = some (.int .i64 0) := X7.cell 1 (by simp)
              have x2 : w7.cell? ⟨wk.heap.size, 2, none⟩ = some (.int .i64 0) := X7.cell 2 (by simp)
              have x3 : w7.cell? ⟨wk.heap.size, 3, none⟩ = some (.int .i64 wt) := X7.cell 3 (by simp)
              have x4 : w7.cell? ⟨wk.heap.size, 4, none⟩ = some (.slice (some ⟨gq, 0, none⟩) 2 cy) := X7.cell 4 (by simp)
              have xl := X7.lt.2
              obtain ⟨a9, c9, h9, h9c, h9a⟩ := R7.at
              simp only [Value.slice.injEq] at h9
              obtain ⟨rfl, -, rfl⟩ := h9
              have hck9 := check_any 7 0 0 wt (some ⟨gq, 0, none⟩) 2 cy (csT 2 1) w7 (HR.out.kept K7) h9a (by decide) h9c
              rw [cs_ok hb1 hb2 (by decide), cs_t (by decide)] at hck9
              clear h9a h9c
              go_wp2_with fail
              refine hck9.mono ?_
              rintro e w8 ⟨rfl, t8⟩
              go_wp2_with fail
              go_ret
              exact ⟨rfl, K7.trans t8⟩
            · have htm : tw.tmod 2 = 0 := by rw [Int.tmod_eq_emod_of_nonneg t0]; exact ht
              obtain ⟨b0, f0, e0, -, q1, -⟩ := (HAY.out.kept K36).2 0 (by decide)
              obtain ⟨b3, f3, e3, -, p1, -⟩ := (HAY.out.kept K36).2 1 (by decide)
              cases e0
              cases e3
              simp [csL] at q1 p1
              have fz := hfz (1 * 3 + 1)
              simp at fz
              clear hfz hj hjk hkk ht hk2 j1 j2 j4 hK6 hcy
              go_wp2_with fail
              go_region
              have T7 : Turns (fun k => k = gq) w6 ((w6.setCell ⟨gq, 4, none⟩ (.int .i64 0)).drew) := (turn_set w6 gq 4 (.int .i64 0)).drew
              have R7 : CRow 46 w.heap.size ((w6.setCell ⟨gq, 4, none⟩ (.int .i64 0)).drew) (.slice (some ⟨gq, 0, none⟩) 3 cy) (csT 3 1) := (HROW.out.chan 1 0 (by decide)).kept ((Kept.refl _).drew)
              generalize (w6.setCell ⟨gq, 4, none⟩ (.int .i64 0)).drew = w7 at T7 R7 ⊢
              have X7 := M7.op.turns T7 (by omega)
              have K7 : Kept w w7 := T7.kept M7.kept (fun q hq => by have := hgl.1; omega)
              clear x0 x1 x2 x3 x4 xl q1 p1 fz htm
              have x0 : w7.cell? ⟨wk.heap.size, 0, none⟩ = some (.int .i64 7) := X7.cell 0 (by simp)
              have x1 : w7.cell? ⟨wk.heap.size, 1, none⟩ = some (.int .i64 0) := X7.cell 1 (by simp)
              have x2 : w7.cell? ⟨wk.heap.size, 2, none⟩ = some (.int .i64 0) := X7.cell 2 (by simp)
              have x3 : w7.cell? ⟨wk.heap.size, 3, none⟩ = some (.int .i64 wt) := X7.cell 3 (by simp)
              have x4 : w7.cell? ⟨wk.heap.size, 4, none⟩ = some (.slice (some ⟨gq, 0, none⟩) 3 cy) := X7.cell 4 (by simp)
              have xl := X7.lt.2
              obtain ⟨a9, c9, h9, h9c, h9a⟩ := R7.at
              simp only [Value.slice.injEq] at h9
              obtain ⟨rfl, -, rfl⟩ := h9
              have hck9 := check_any 7 0 0 wt (some ⟨gq, 0, none⟩) 3 cy (csT 3 1) w7 (HR.out.kept K7) h9a (by decide) h9c
              rw [cs_ok hb1 hb2 (by decide), cs_t (by decide)] at hck9
              clear h9a h9c
              go_wp2_with fail
              refine hck9.mono ?_
              rintro e w8 ⟨rfl, t8⟩
              go_wp2_with fail
              go_ret
              exact ⟨rfl, K7.trans t8⟩
            · have htm : tw.tmod 2 = 1 := by rw [Int.tmod_eq_emod_of_nonneg t0]; exact ht
              obtain ⟨b0, f0, e0, -, q1, -⟩ := (HAY.out.kept K36).2 1 (by decide)
              obtain ⟨b3, f3, e3, -, p1, -⟩ := (HAY.out.kept K36).2 2 (by decide)
              cases e0
              cases e3
              simp [csL] at q1 p1
              have fz := hfz (2 * 3 + 1)
              simp at fz
              clear hfz hj hjk hkk ht hk2 j1 j2 j4 hK6 hcy
              go_wp2_with fail
              go_region
              have T7 : Turns (fun k => k = gq) w6 ((w6.setCell ⟨gq, 7, none⟩ (.int .i64 1)).drew) := (turn_set w6 gq 7 (.int .i64 1)).drew
              have R7 : CRow 46 w.heap.size ((w6.setCell ⟨gq, 7, none⟩ (.int .i64 1)).drew) (.slice (some ⟨gq, 0, none⟩) 3 cy) (csT 3 2) := (HROW.out.chan 2 1 (by decide)).kept ((Kept.refl _).drew)
              generalize (w6.setCell ⟨gq, 7, none⟩ (.int .i64 1)).drew = w7 at T7 R7 ⊢
              have X7 := M7.op.turns T7 (by omega)
              have K7 : Kept w w7 := T7.kept M7.kept (fun q hq => by have := hgl.1; omega)
              clear x0 x1 x2 x3 x4 xl q1 p1 fz htm
              have x0 : w7.cell? ⟨wk.heap.size, 0, none⟩ = some (.int .i64 7) := X7.cell 0 (by simp)
              have x1 : w7.cell? ⟨wk.heap.size, 1, none⟩ = some (.int .i64 0) := X7.cell 1 (by simp)
              have x2 : w7.cell? ⟨wk.heap.size, 2, none⟩ = some (.int .i64 0) := X7.cell 2 (by simp)
              have x3 : w7.cell? ⟨wk.heap.size, 3, none⟩ = some (.int .i64 wt) := X7.cell 3 (by simp)
              have x4 : w7.cell? ⟨wk.heap.size, 4, none⟩ = some (.slice (some ⟨gq, 0, none⟩) 3 cy) := X7.cell 4 (by simp)
              have xl := X7.lt.2
              obtain ⟨a9, c9, h9, h9c, h9a⟩ := R7.at
              simp only [Value.slice.injEq] at h9
              obtain ⟨rfl, -, rfl⟩ := h9
              have hck9 := check_any 7 0 0 wt (some ⟨gq, 0, none⟩) 3 cy (csT 3 2) w7 (HR.out.kept K7) h9a (by decide) h9c
              rw [cs_ok hb1 hb2 (by decide), cs_t (by decide)] at hck9
              clear h9a h9c
              go_wp2_with fail
              refine hck9.mono ?_
              rintro e w8 ⟨rfl, t8⟩
              go_wp2_with fail
              go_ret
              exact ⟨rfl, K7.trans t8⟩
            · have htm : tw.tmod 3 = 0 := by rw [Int.tmod_eq_emod_of_nonneg t0]; exact ht
              obtain ⟨b0, f0, e0, -, q1, -⟩ := (HAY.out.kept K36).2 0 (by decide)
              obtain ⟨b3, f3, e3, -, p1, -⟩ := (HAY.out.kept K36).2 1 (by decide)
              cases e0
              cases e3
              simp [csL] at q1 p1
              have fz := hfz (1 * 3 + 1)
              simp at fz
              clear hfz hj hjk hkk ht hk2 j1 j2 j4 hK6 hcy
              go_wp2_with fail
              go_region
              have T7 : Turns (fun k => k = gq) w6 ((w6.setCell ⟨gq, 4, none⟩ (.int .i64 0)).drew) := (turn_set w6 gq 4 (.int .i64 0)).drew
              have R7 : CRow 46 w.heap.size ((w6.setCell ⟨gq, 4, none⟩ (.int .i64 0)).drew) (.slice (some ⟨gq, 0, none⟩) 4 cy) (csT 4 1) := (HROW.out.chan 1 0 (by decide)).kept ((Kept.refl _).drew)
              generalize (w6.setCell ⟨gq, 4, none⟩ (.int .i64 0)).drew = w7 at T7 R7 ⊢
              have X7 := M7.op.turns T7 (by omega)
              have K7 : Kept w w7 := T7.kept M7.kept (fun q hq => by have := hgl.1; omega)
              clear x0 x1 x2 x3 x4 xl q1 p1 fz htm
              have x0 : w7.cell? ⟨wk.heap.size, 0, none⟩ = some (.int .i64 7) := X7.cell 0 (by simp)
              have x1 : w7.cell? ⟨wk.heap.size, 1, none⟩ = some (.int .i64 0) := X7.cell 1 (by simp)
              have x2 : w7.cell? ⟨wk.heap.size, 2, none⟩ = some (.int .i64 0) := X7.cell 2 (by simp)
              have x3 : w7.cell? ⟨wk.heap.size, 3, none⟩ = some (.int .i64 wt) := X7.cell 3 (by simp)
              have x4 : w7.cell? ⟨wk.heap.size, 4, none⟩ = some (.slice (some ⟨gq, 0, none⟩) 4 cy) := X7.cell 4 (by simp)
              have xl := X7.lt.2
              obtain ⟨a9, c9, h9, h9c, h9a⟩ := R7.at
              simp only [Value.slice.injEq] at h9
              obtain ⟨rfl, -, rfl⟩ := h9
              have hck9 := check_any 7 0 0 wt (some ⟨gq, 0, none⟩) 4 cy (csT 4 1) w7 (HR.out.kept K7) h9a (by decide) h9c
              rw [cs_ok hb1 hb2 (by decide), cs_t (by decide)] at hck9
              clear h9a h9c
              go_wp2_with fail
              refine hck9.mono ?_
              rintro e w8 ⟨rfl, t8⟩
              go_wp2_with fail
              go_ret
              exact ⟨rfl, K7.trans t8⟩
            · have htm : tw.tmod 3 = 1 := by rw [Int.tmod_eq_emod_of_nonneg t0]; exact ht
              obtain ⟨b0, f0, e0, -, q1, -⟩ := (HAY.out.kept K36).2 1 (by decide)
              obtain ⟨b3, f3, e3, -, p1, -⟩ := (HAY.out.kept K36).2 2 (by decide)
              cases e0
              cases e3
              simp [csL] at q1 p1
              have fz := hfz (2 * 3 + 1)
              simp at fz
              clear hfz hj hjk hkk ht hk2 j1 j2 j4 hK6 hcy
              go_wp2_with fail
              go_region
              have T7 : Turns (fun k => k = gq) w6 ((w6.setCell ⟨gq, 7, none⟩ (.int .i64 1)).drew) := (turn_set w6 gq 7 (.int .i64 1)).drew
              have R7 : CRow 46 w.heap.size ((w6.setCell ⟨gq, 7, none⟩ (.int .i64 1)).drew) (.slice (some ⟨gq, 0, none⟩) 4 cy) (csT 4 2) := (HROW.out.chan 2 1 (by decide)).kept ((Kept.refl _).drew)
              generalize (w6.setCell ⟨gq, 7, none⟩ (.int .i64 1)).drew = w7 at T7 R7 ⊢
              have X7 := M7.op.turns T7 (by omega)
              have K7 : Kept w w7 := T7.kept M7.kept (fun q hq => by have := hgl.1; omega)
              clear x0 x1 x2 x3 x4 xl q1 p1 fz htm
              have x0 : w7.cell? ⟨wk.heap.size, 0, none⟩ = some (.int .i64 7) := X7.cell 0 (by simp)
              have x1 : w7.cell? ⟨wk.heap.size, 1, none⟩ = some (.int .i64 0) := X7.cell 1 (by simp)
              have x2 : w7.cell? ⟨wk.heap.size, 2, none⟩ = some (.int .i64 0) := X7.cell 2 (by simp)
              have x3 : w7.cell? ⟨wk.heap.size, 3, none⟩ = some (.int .i64 wt) := X7.cell 3 (by simp)
              have x4 : w7.cell? ⟨wk.heap.size, 4, none⟩ = some (.slice (some ⟨gq, 0, none⟩) 4 cy) := X7.cell 4 (by simp)
              have xl := X7.lt.2
              obtain ⟨a9, c9, h9, h9c, h9a⟩ := R7.at
              simp only [Value.slice.injEq] at h9
              obtain ⟨rfl, -, rfl⟩ := h9
              have hck9 := check_any 7 0 0 wt (some ⟨gq, 0, none⟩) 4 cy (csT 4 2) w7 (HR.out.kept K7) h9a (by decide) h9c
              rw [cs_ok hb1 hb2 (by decide), cs_t (by decide)] at hck9
              clear h9a h9c
              go_wp2_with fail
              refine hck9.mono ?_
              rintro e w8 ⟨rfl, t8⟩
              go_wp2_with fail
              go_ret
              exact ⟨rfl, K7.trans t8⟩
            · have htm : tw.tmod 3 = 2 := by rw [Int.tmod_eq_emod_of_nonneg t0]; exact ht
              obtain ⟨b0, f0, e0, -, q1, -⟩ := (HAY.out.kept K36).2 2 (by decide)
              obtain ⟨b3, f3, e3, -, p1, -⟩ := (HAY.out.kept K36).2 3 (by decide)
              cases e0
              cases e3
              simp [csL] at q1 p1
              have fz := hfz (3 * 3 + 1)
              simp at fz
              clear hfz hj hjk hkk ht hk2 j1 j2 j4 hK6 hcy
              go_wp2_with fail
              go_region
              have T7 : Turns (fun k => k = gq) w6 ((w6.setCell ⟨gq, 10, none⟩ (.int .i64 2)).drew) := (turn_set w6 gq 10 (.int .i64 2)).drew
              have R7 : CRow 46 w.heap.size ((w6.setCell ⟨gq, 10, none⟩ (.int .i64 2)).drew) (.slice (some ⟨gq, 0, none⟩) 4 cy) (csT 4 3) := (HROW.out.chan 3 2 (by decide)).kept ((Kept.refl _).drew)
              generalize (w6.setCell ⟨gq, 10, none⟩ (.int .i64 2)).drew = w7 at T7 R7 ⊢
              have X7 := M7.op.turns T7 (by omega)
              have K7 : Kept w w7 := T7.kept M7.kept (fun q hq => by have := hgl.1; omega)
              clear x0 x1 x2 x3 x4 xl q1 p1 fz htm
              have x0 : w7.cell? ⟨wk.heap.size, 0, none⟩ = some (.int .i64 7) := X7.cell 0 (by simp)
              have x1 : w7.cell? ⟨wk.heap.size, 1, none⟩ = some (.int .i64 0) := X7.cell 1 (by simp)
              have x2 : w7.cell? ⟨wk.heap.size, 2, none⟩ = some (.int .i64 0) := X7.cell 2 (by simp)
              have x3 : w7.cell? ⟨wk.heap.size, 3, none⟩ = some (.int .i64 wt) := X7.cell 3 (by simp)
              have x4 : w7.cell? ⟨wk.heap.size, 4, none⟩ = some (.slice (some ⟨gq, 0, none⟩) 4 cy) := X7.cell 4 (by simp)
              have xl := X7.lt.2
              obtain ⟨a9, c9, h9, h9c, h9a⟩ := R7.at
              simp only [Value.slice.injEq] at h9
              obtain ⟨rfl, -, rfl⟩ := h9
              have hck9 := check_any 7 0 0 wt (some ⟨gq, 0, none⟩) 4 cy (csT 4 3) w7 (HR.out.kept K7) h9a (by decide) h9c
              rw [cs_ok hb1 hb2 (by decide), cs_t (by decide)] at hck9
              clear h9a h9c
              go_wp2_with fail
              refine hck9.mono ?_
              rintro e w8 ⟨rfl, t8⟩
              go_wp2_with fail
              go_ret
              exact ⟨rfl, K7.trans t8⟩
end Go.Proofs.YtiiddfahpddffaaDoor
