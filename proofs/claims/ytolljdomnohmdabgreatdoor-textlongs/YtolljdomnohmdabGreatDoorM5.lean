/- The reader's cases. -/
import Derived.Test.YtolljdomnohmdabGreatDoorM3
import Derived.Test.YtolljdomnohmdabGreatDoorCheck
namespace Go.Proofs.YtolljdomnohmdabGreatDoor
open Go.RowKit

theorem consC_2 (c : CaseD) (x : List CaseD × Int) : (consC c x).2 = x.2 := by unfold consC; split <;> simp_all
theorem consC_1 (c : CaseD) (x : List CaseD × Int) (h : x.2 = 0) : (consC c x).1 = c :: x.1 := by unfold consC; rw [if_pos h]
theorem areB_inv {k : List UInt8} {t : List (List UInt8)} (h : areB (k :: t) = true) : ∃ a r, t = a :: r ∧ ((k = sendW ∧ ∃ b r', r = b :: r' ∧ areB r' = true) ∨ (k = recvW ∧ areB r = true)) := by
  cases t with
  | nil => simp [areB] at h
  | cons a r =>
    refine ⟨a, r, rfl, ?_⟩
    rw [areB_cons] at h
    split at h
    · rename_i hk
      cases r with
      | nil => simp at h
      | cons b r' => exact .inl ⟨hk, b, r', rfl, h⟩
    · split at h
      · rename_i hk
        exact .inr ⟨hk, h⟩
      · cases h
theorem cs_send1 {a b : List UInt8} {r : List (List UInt8)} (h : (numOf a).2 ≠ 0) : (casesOf (sendW :: a :: b :: r)).2 = (numOf a).2 := by rw [casesOf_cons, if_neg h]
theorem cs_send2 {a b : List UInt8} {r : List (List UInt8)} (h : (numOf a).2 = 0) (h2 : (numOf b).2 ≠ 0) : (casesOf (sendW :: a :: b :: r)).2 = (numOf b).2 := by
  rw [casesOf_cons, if_pos h, if_pos rfl]
  simp only [if_neg h2]
theorem cs_send {a b : List UInt8} {r : List (List UInt8)} (h : (numOf a).2 = 0) (h2 : (numOf b).2 = 0) : casesOf (sendW :: a :: b :: r) = consC ⟨true, (numOf a).1, (numOf b).1⟩ (casesOf r) := by
  rw [casesOf_cons, if_pos h, if_pos rfl]
  simp only [if_pos h2]
theorem cs_recv1 {a : List UInt8} {r : List (List UInt8)} (h : (numOf a).2 ≠ 0) : (casesOf (recvW :: a :: r)).2 = (numOf a).2 := by rw [casesOf_cons, if_neg h]
theorem cs_recv {a : List UInt8} {r : List (List UInt8)} (h : (numOf a).2 = 0) : casesOf (recvW :: a :: r) = consC ⟨false, (numOf a).1, 0⟩ (casesOf r) := by rw [casesOf_cons, if_pos h, if_neg (by decide)]

/-- What a round keeps (f: how channels are told). -/
structure CsInv (f : Int → Int) (ws0 ws : List (List UInt8)) (cs : List CaseD) (e : Int) : Prop where
  bad : e ≠ 0 → (casesOf ws0).2 = e
  are : e = 0 → areB ws = true
  same : e = 0 → (casesOf ws).2 = (casesOf ws0).2
  ok : e = 0 → (casesOf ws0).2 = 0 → (casesOf ws0).1.map (clC f) = cs ++ (casesOf ws).1.map (clC f)
theorem CsInv.start {f : Int → Int} {ws : List (List UInt8)} (h : areB ws = true) : CsInv f ws ws [] 0 := ⟨fun h => absurd rfl h, fun _ => h, fun _ => rfl, fun _ _ => rfl⟩
theorem CsInv.fail {f : Int → Int} {ws0 ws ws' : List (List UInt8)} {cs cs' : List CaseD} {e : Int} (h : CsInv f ws0 ws cs 0) (he : e ≠ 0) (hc : (casesOf ws).2 = e) : CsInv f ws0 ws' cs' e :=
  ⟨fun _ => by rw [← h.same rfl, hc], fun x => absurd x he, fun x => absurd x he, fun x => absurd x he⟩
theorem CsInv.next {f : Int → Int} {ws0 ws ws' : List (List UInt8)} {cs : List CaseD} {c : CaseD} (h : CsInv f ws0 ws cs 0) (ha : areB ws' = true) (hc : casesOf ws = consC c (casesOf ws')) : CsInv f ws0 ws' (cs ++ [clC f c]) 0 := by
  have h2 : (casesOf ws).2 = (casesOf ws').2 := by rw [hc, consC_2]
  refine ⟨fun x => absurd rfl x, fun _ => ha, fun _ => by rw [← h.same rfl, h2], fun _ h0 => ?_⟩
  rw [h.ok rfl h0, hc, consC_1 _ _ (by rw [← h2, h.same rfl, h0])]
  simp
theorem CsInv.last {f : Int → Int} {ws0 : List (List UInt8)} {cs : List CaseD} (h : CsInv f ws0 [] cs 0) : (casesOf ws0).2 = 0 ∧ (casesOf ws0).1.map (clC f) = cs := by
  have h1 : (casesOf ws0).2 = 0 := by rw [← h.same rfl]; rfl
  refine ⟨h1, ?_⟩
  rw [h.ok rfl h1]
  simp [casesOf]

/-- What there is in a round of cases. -/
structure CsM (Bd : Nat) (w wr : World) (rb : Nat) (ws : List (List UInt8)) (e : Int) (v : Value) (cs : List CaseD) : Prop where
  rd : Rd Bd wr rb ws e
  row : CRow 57 w.heap.size wr v cs
  tu : Turns (fun k => k = rb) w wr
theorem CsM.turns {Bd : Nat} {w wr w' : World} {rb : Nat} {ws ws' : List (List UInt8)} {e e' : Int} {v : Value} {cs : List CaseD} (h : CsM Bd w wr rb ws e v cs) (hlt : rb < w.heap.size) (t : Turns (fun k => k = rb) wr w') (r : Rd Bd w' rb ws' e') : CsM Bd w w' rb ws' e' v cs :=
  ⟨r, h.row.turns t (fun k hk e => by have := (World.ownsRow.lt h.row k hk).1; omega), h.tu.trans t⟩

theorem CsM.box {Bd : Nat} {w wr w' : World} {rb cb : Nat} {ws : List (List UInt8)} {e : Int} {v : Value} {cs : List CaseD} (h : CsM Bd w wr rb ws e v cs) (hlt : rb < w.heap.size) (t : Turns (fun k => k = cb) wr w') (hcb : w.heap.size ≤ cb) (hne : ∀ q, v.ownBlock = some q → q ≠ cb) : CsM Bd w w' rb ws e v cs := by
  have hl := h.rd.lt
  exact ⟨h.rd.turns t (fun k hk => by omega), h.row.turns t (fun k hk e => hne k hk e), h.tu.next t (fun i hi hk => by omega)⟩
theorem CsM.app {Bd : Nat} {w wr wa w' : World} {rb : Nat} {ws : List (List UInt8)} {e : Int} {v v' : Value} {cs cs' : List CaseD} {o : Obj} (h : CsM Bd w wr rb ws e v cs) (hlt : rb < w.heap.size) (ha : wa = wr.alloc o) (gr : wa.grownBy w' v.ownBlock) (r : CRow 57 w.heap.size w' v' cs') : CsM Bd w w' rb ws e v' cs' := by
  subst ha
  have hl := h.rd.lt
  have t : Turns (fun k => v.ownBlock = some k) wr w' := ((Turns.refl _ wr).alloc o).trans (Turns.grown gr (fun k e => e))
  exact ⟨h.rd.turns t (fun k hk => by have := (World.ownsRow.lt h.row k hk).1; omega), r, h.tu.next t (fun i hi hk => by have := (World.ownsRow.lt h.row i hk).1; omega)⟩
theorem CsM.alloc {Bd : Nat} {w wr : World} {rb : Nat} {ws : List (List UInt8)} {e : Int} {v : Value} {cs : List CaseD} (h : CsM Bd w wr rb ws e v cs) (hlt : rb < w.heap.size) (o : Obj) : CsM Bd w (wr.alloc o) rb ws e v cs :=
  h.turns hlt ((Turns.refl _ _).alloc o) (h.rd.kept ((Kept.refl _).alloc o))
theorem CsM.ready {Bd : Nat} {w wr : World} {rb : Nat} {ws : List (List UInt8)} {e : Int} {v : Value} {cs : List CaseD} (h : CsM Bd w wr rb ws e v cs) (hr : Rdy w) (hB : 7 ≤ Bd) : Rdy wr :=
  hr.turns h.tu (fun k hk => by have := h.rd.lt; omega)

set_option maxHeartbeats 8000000 in
set_option maxRecDepth 10000 in
theorem cases_yes {Bd : Nat} {w : World} {rb : Nat} {ws : List (List UInt8)} (h : Rd Bd w rb ws 0) (hA : areB ws = true) (hl : ws.length ≤ 100000) (hx : ∀ x ∈ ws, x.length ≤ 100000) (hr : Rdy w) (hB : 7 ≤ Bd) :
    Calls Tryz.prog 107 #[.pointer (some ⟨rb, 0, none⟩)] w fun en w' => ∃ v cs e r', en = .returned v ∧ CRow 57 w.heap.size w' v cs ∧ e = (casesOf ws).2 ∧ (e = 0 → cs = (casesOf ws).1.map (clC chan8)) ∧ Rd Bd w' rb r' e ∧ Turns (fun k => k = rb) w w' := by
  have hrl := h.lt
  have H0 : Hid (CsM Bd w w rb ws 0 (.slice none 0 0) []) := ⟨h, CRow.nil _ _ _, Turns.refl _ _⟩
  have HR : Hid (Rdy w) := hr
  have HX : Hid (∀ x ∈ ws, x.length ≤ 100000) := hx
  have HI0 : Hid (CsInv chan8 ws ws [] 0) := CsInv.start hA
  clear h hr hx hA
  go_enter Tryz.func107, Tryz.ntmps107
  go_wp2_with fail
  go_loopg [3] ws.length (fun gk v wr => ∃ (wk : List (List UInt8)) (cs : List CaseD) (e : Int), wk.length ≤ gk ∧ cs.length + wk.length ≤ ws.length ∧ Hid (∀ x ∈ wk, x.length ≤ 100000) ∧ Hid (CsInv chan8 ws wk cs e) ∧ Hid (CsM Bd w wr rb wk e v cs))
  case atStart => exact ⟨ws, [], 0, Nat.le_refl _, by simp, HX, HI0, H0⟩
  case round =>
    obtain ⟨wk, cs, e, hg, hcl, HXk, HI, HM⟩ := hrel
    have HRk : Hid (Rdy wr) := HR.out.turns HM.out.tu (fun k hk => by omega)
    have hbx := HM.out.rd
    obtain ⟨a, c, hb, hc, hat, hf⟩ := hbx
    have c0 : wr.cell? ⟨rb, 0, none⟩ = some (.slice a wk.length c) := hb.cell 0 (by simp)
    have c1 : wr.cell? ⟨rb, 1, none⟩ = some (.int .i64 e) := hb.cell 1 (by simp)
    clear hb hat hf hc
    by_cases he : e = 0
    · subst he
      cases wk with
      | nil =>
        have HL := HI.out.last
        have HL : Hid _ := HL
        go_wp2_with fail
        go_ret
        exact ⟨_, cs, 0, [], rfl, HM.out.row, HL.out.1.symm, fun _ => HL.out.2.symm, HM.out.rd, HM.out.tu⟩
      | cons k t =>
        obtain ⟨g3, rfl⟩ : ∃ g, gk = g + 1 := ⟨gk - 1, by simp at hg; omega⟩
        have hp : 0 < ((k :: t).length : Int) := by simp
        obtain ⟨x, r, rfl, hway⟩ := areB_inv (HI.out.are rfl)
        have hxl : x.length ≤ 100000 := HXk.out x (by simp)
        have hrl2 : (x :: r).length ≤ 1000000 := by simp at hcl ⊢; omega
        rcases hway with ⟨rfl, b, r', rfl, ha⟩ | ⟨rfl, ha⟩
        · have hs : ((B sendW).toList == [115, 101, 110, 100]) = true := by rw [B_is]; decide
          go_wp2_with fail
          refine (next_any HM.out.rd hrl2).mono ?_
          rintro en w1 ⟨rfl, R1, t1⟩
          have M1 := HM.out.turns hrl.2 t1 R1
          have hcb := M1.tu.size
          have hv1 : ∀ q, u3.ownBlock = some q → q ≠ w1.heap.size := fun q hq e => by have := (World.ownsRow.lt M1.row q hq).2; omega
          have X1 := box_new w.heap.size w1 57 [.bool true, .int .i64 0, .int .i64 0] hcb (by simp)
          have M2 := M1.alloc hrl.2 (.cells #[.bool true, .int .i64 0, .int .i64 0] 57)
          go_wp2_with fail
          refine (number_yes M2.rd (by simp at hrl2 ⊢; omega) hxl (M2.ready HR.out hB) hB).mono ?_
          rintro en w2 ⟨rfl, R2, t2⟩
          have M3 := M2.turns hrl.2 t2 R2
          have X2 := X1.turns t2 (by omega)
          have x0 : w2.cell? ⟨w1.heap.size, 0, none⟩ = some (.bool true) := X2.cell 0 (by simp)
          have x1 : w2.cell? ⟨w1.heap.size, 1, none⟩ = some (.int .i64 0) := X2.cell 1 (by simp)
          have x2 : w2.cell? ⟨w1.heap.size, 2, none⟩ = some (.int .i64 0) := X2.cell 2 (by simp)
          have xf := X2.frozen 1
          have xl := X2.lt.2
          obtain ⟨ch, hch⟩ : ∃ z, (numOf x).1 = z := ⟨_, rfl⟩
          have HCH : Hid ((numOf x).1 = ch) := hch
          have hco := chanOf_any (numOf x).1 w2
          rw [hch] at hco ⊢
          clear hch
          go_wp2_with fail
          refine hco.mono ?_
          rintro en w3 ⟨rfl, hw⟩
          subst w3
          have M4 := M3.box hrl.2 (turn_set w2 w1.heap.size 1 (.int .i64 (chan8 ch))) hcb hv1
          have X3 := X2.set 1 (.int .i64 (chan8 ch))
          have hbl : b.length ≤ 100000 := HXk.out b (by simp)
          have z0 : (w2.setCell ⟨w1.heap.size, 1, none⟩ (.int .i64 (chan8 ch))).cell? ⟨w1.heap.size, 0, none⟩ = some (.bool true) := X3.cell 0 (by simp)
          by_cases h0 : (numOf x).2 = 0
          · have hnu := number_yes (by rw [h0] at M4; exact M4.rd) (by simp at hrl2 ⊢; omega) hbl (M4.ready HR.out hB) hB
            obtain ⟨vb, hvb⟩ : ∃ z, (numOf b).1 = z := ⟨_, rfl⟩
            have HVB : Hid ((numOf b).1 = vb) := hvb
            have H0 : Hid ((numOf x).2 = 0) := h0
            rw [hvb] at hnu
            clear hvb h0
            go_wp2_with fail
            refine hnu.mono ?_
            rintro en w3 ⟨rfl, R3, t3⟩
            have M5 := M4.turns hrl.2 t3 R3
            have X4 := X3.turns t3 (by omega)
            have y0 : w3.cell? ⟨w1.heap.size, 0, none⟩ = some (.bool true) := X4.cell 0 (by simp)
            have y1 : w3.cell? ⟨w1.heap.size, 1, none⟩ = some (.int .i64 (chan8 ch)) := X4.cell 1 (by simp)
            have y2 : w3.cell? ⟨w1.heap.size, 2, none⟩ = some (.int .i64 0) := X4.cell 2 (by simp)
            have yf := X4.frozen 2
            have yl := X4.lt.2
            have M6 := M5.box hrl.2 (turn_set w3 w1.heap.size 2 (.int .i64 vb)) hcb hv1
            go_wp2_with (at_builtin; refine wpList_append_case kP _ (by rfl) _ _ rfl w.heap.size u3 cs true (chan8 ch) vb (w3.setCell ⟨w1.heap.size, 2, none⟩ (.int .i64 vb)) rfl (by rfl) w3.heap.size (by simp [World.setCell]) (by rfl) M6.row (by omega) M6.tu.size ?_; intro g5 c5 w5 R5 gr5 at5; have M7 := M6.app hrl.2 rfl gr5 R5)
            have HI2 : Hid (CsInv chan8 ws r' (cs ++ [⟨true, chan8 ch, vb⟩]) (numOf b).2) := by
              by_cases hb0 : (numOf b).2 = 0
              · rw [hb0]
                have := HI.out.next ha (cs_send H0.out hb0)
                rw [HCH.out, HVB.out] at this
                exact this
              · exact HI.out.fail hb0 (cs_send2 H0.out hb0)
            go_roundg g3
            case rel => exact ⟨r', cs ++ [⟨true, chan8 ch, vb⟩], (numOf b).2, by simp at hg; omega, by simp at hcl ⊢; omega, (fun y hy => HXk.out y (by simp [hy])), HI2, (by exact M7)⟩
            case measure => omega
          · have hnu := number_no M4.rd h0
            have HI2 : Hid (CsInv chan8 ws (b :: r') (cs ++ [⟨true, chan8 ch, 0⟩]) (numOf x).2) := HI.out.fail h0 (cs_send1 h0)
            clear h0
            have y0 : (w2.setCell ⟨w1.heap.size, 1, none⟩ (.int .i64 (chan8 ch))).cell? ⟨w1.heap.size, 1, none⟩ = some (.int .i64 (chan8 ch)) := X3.cell 1 (by simp)
            have y2 : (w2.setCell ⟨w1.heap.size, 1, none⟩ (.int .i64 (chan8 ch))).cell? ⟨w1.heap.size, 2, none⟩ = some (.int .i64 0) := X3.cell 2 (by simp)
            have yf := X3.frozen 2
            have M6 := M4.box hrl.2 (turn_set (w2.setCell ⟨w1.heap.size, 1, none⟩ (.int .i64 (chan8 ch))) w1.heap.size 2 (.int .i64 0)) hcb hv1
            go_wp2_with fail
            refine hnu.mono ?_
            rintro en w3 ⟨rfl, hw⟩
            subst w3
            go_wp2_with (at_builtin; refine wpList_append_case kP _ (by rfl) _ _ rfl w.heap.size u3 cs true (chan8 ch) 0 ((w2.setCell ⟨w1.heap.size, 1, none⟩ (.int .i64 (chan8 ch))).setCell ⟨w1.heap.size, 2, none⟩ (.int .i64 0)) rfl (by rfl) w2.heap.size (by simp [World.setCell]) (by rfl) M6.row (by omega) M6.tu.size ?_; intro g5 c5 w5 R5 gr5 at5; have M7 := M6.app hrl.2 rfl gr5 R5)
            go_roundg g3
            case rel => exact ⟨b :: r', cs ++ [⟨true, chan8 ch, 0⟩], (numOf x).2, by simp at hg ⊢; omega, by simp at hcl ⊢; omega, (fun y hy => HXk.out y (by simp at hy ⊢; exact .inr (.inr hy))), HI2, (by exact M7)⟩
            case measure => omega
        · have hs : ((B recvW).toList == [115, 101, 110, 100]) = false := by rw [B_is]; decide
          go_wp2_with fail
          refine (next_any HM.out.rd hrl2).mono ?_
          rintro en w1 ⟨rfl, R1, t1⟩
          have M1 := HM.out.turns hrl.2 t1 R1
          have hcb := M1.tu.size
          have hv1 : ∀ q, u3.ownBlock = some q → q ≠ w1.heap.size := fun q hq e => by have := (World.ownsRow.lt M1.row q hq).2; omega
          have X1 := box_new w.heap.size w1 57 [.bool false, .int .i64 0, .int .i64 0] hcb (by simp)
          have M2 := M1.alloc hrl.2 (.cells #[.bool false, .int .i64 0, .int .i64 0] 57)
          go_wp2_with fail
          refine (number_yes M2.rd (by simp at hrl2 ⊢; omega) hxl (M2.ready HR.out hB) hB).mono ?_
          rintro en w2 ⟨rfl, R2, t2⟩
          have M3 := M2.turns hrl.2 t2 R2
          have X2 := X1.turns t2 (by omega)
          have x0 : w2.cell? ⟨w1.heap.size, 0, none⟩ = some (.bool false) := X2.cell 0 (by simp)
          have x1 : w2.cell? ⟨w1.heap.size, 1, none⟩ = some (.int .i64 0) := X2.cell 1 (by simp)
          have x2 : w2.cell? ⟨w1.heap.size, 2, none⟩ = some (.int .i64 0) := X2.cell 2 (by simp)
          have xf := X2.frozen 1
          have xl := X2.lt.2
          obtain ⟨ch, hch⟩ : ∃ z, (numOf x).1 = z := ⟨_, rfl⟩
          have HCH : Hid ((numOf x).1 = ch) := hch
          have hco := chanOf_any (numOf x).1 w2
          rw [hch] at hco ⊢
          clear hch
          go_wp2_with fail
          refine hco.mono ?_
          rintro en w3 ⟨rfl, hw⟩
          subst w3
          have M4 := M3.box hrl.2 (turn_set w2 w1.heap.size 1 (.int .i64 (chan8 ch))) hcb hv1
          have X3 := X2.set 1 (.int .i64 (chan8 ch))
          go_wp2_with (at_builtin; refine wpList_append_case kP _ (by rfl) _ _ rfl w.heap.size u3 cs false (chan8 ch) 0 (w2.setCell ⟨w1.heap.size, 1, none⟩ (.int .i64 (chan8 ch))) rfl (by rfl) w2.heap.size (by simp [World.setCell]) (by rfl) M4.row (by omega) M4.tu.size ?_; intro g5 c5 w5 R5 gr5 at5; have M5 := M4.app hrl.2 rfl gr5 R5)
          have HI2 : Hid (CsInv chan8 ws r (cs ++ [⟨false, chan8 ch, 0⟩]) (numOf x).2) := by
            by_cases h0 : (numOf x).2 = 0
            · rw [h0]
              have := HI.out.next ha (cs_recv h0)
              rw [HCH.out] at this
              exact this
            · exact HI.out.fail h0 (cs_recv1 h0)
          go_roundg g3
          case rel => exact ⟨r, cs ++ [⟨false, chan8 ch, 0⟩], (numOf x).2, by simp at hg; omega, by simp at hcl ⊢; omega, (fun y hy => HXk.out y (by simp [hy])), HI2, (by exact M5)⟩
          case measure => omega
    · have h1 : (e == 0) = false := by simp [he]
      have HE : Hid ((casesOf ws).2 = e) := HI.out.bad he
      go_wp2_with fail
      go_ret
      exact ⟨_, cs, e, wk, rfl, HM.out.row, HE.out.symm, fun h => absurd h he, HM.out.rd, HM.out.tu⟩
end Go.Proofs.YtolljdomnohmdabGreatDoor
namespace Go.Proofs.YtolljdomnohmdabGreatDoor
open Go.RowKit

/-- One step of a reader: from its first error on it stands still. -/
structure St (e v e' : Int) (a : Int × Int) : Prop where
  go : e = 0 → e' = a.2 ∧ (a.2 = 0 → v = a.1)
  no : e ≠ 0 → e' = e

theorem number_comb {Bd : Nat} {w : World} {rb : Nat} {ws r : List (List UInt8)} {e : Int} (x : List UInt8) (h : Rd Bd w rb ws e) (hw : e = 0 → ws = x :: r) (hl : r.length ≤ 1000000) (hx : x.length ≤ 100000) (hr : Rdy w) (hB : 7 ≤ Bd) :
    Calls Tryz.prog 105 #[.pointer (some ⟨rb, 0, none⟩)] w fun en w' => ∃ v e' ws', en = .returned (.int .i64 v) ∧ St e v e' (numOf x) ∧ (e' = 0 → ws' = r) ∧ Rd Bd w' rb ws' e' ∧ Turns (fun k => k = rb) w w' := by
  by_cases he : e = 0
  · subst he
    rw [hw rfl] at h
    refine (number_yes h hl hx hr hB).mono ?_
    rintro en w1 ⟨rfl, R, t⟩
    exact ⟨_, _, r, rfl, ⟨fun _ => ⟨rfl, fun _ => rfl⟩, fun h => absurd rfl h⟩, fun _ => rfl, R, t⟩
  · refine (number_no h he).mono ?_
    rintro en w1 ⟨rfl, rfl⟩
    exact ⟨0, e, ws, rfl, ⟨fun h => absurd h he, fun _ => rfl⟩, fun h => absurd h he, h, Turns.refl _ _⟩
theorem wait_comb {Bd : Nat} {w : World} {rb : Nat} {ws r : List (List UInt8)} {e : Int} (x : List UInt8) (h : Rd Bd w rb ws e) (hw : e = 0 → ws = x :: r) (hl : r.length ≤ 1000000) (hx : x.length ≤ 100000) (hr : Rdy w) (hB : 7 ≤ Bd) :
    Calls Tryz.prog 106 #[.pointer (some ⟨rb, 0, none⟩)] w fun en w' => ∃ v e' ws', en = .returned (.int .i64 v) ∧ St e v e' (waitOf x) ∧ (e' = 0 → ws' = r) ∧ Rd Bd w' rb ws' e' ∧ Turns (fun k => k = rb) w w' := by
  by_cases he : e = 0
  · subst he
    rw [hw rfl] at h
    refine (wait_yes h hl hx hr hB).mono ?_
    rintro en w1 ⟨v, e', rfl, A, R, t⟩
    exact ⟨v, e', r, rfl, ⟨fun _ => A, fun h => absurd rfl h⟩, fun _ => rfl, R, t⟩
  · refine (wait_no h he).mono ?_
    rintro en w1 ⟨rfl, rfl⟩
    exact ⟨0, e, ws, rfl, ⟨fun h => absurd h he, fun _ => rfl⟩, fun h => absurd h he, h, Turns.refl _ _⟩

theorem cases_no {Bd : Nat} {w : World} {rb : Nat} {ws : List (List UInt8)} {e : Int} (h : Rd Bd w rb ws e) (he : e ≠ 0) :
    Calls Tryz.prog 107 #[.pointer (some ⟨rb, 0, none⟩)] w fun en w' => en = .returned (.slice none 0 0) ∧ w' = w := by
  obtain ⟨a, c, hb, hc, hat, hf⟩ := h
  have c1 : w.cell? ⟨rb, 1, none⟩ = some (.int .i64 e) := hb.cell 1 (by simp)
  have h1 : (e == 0) = false := by simp [he]
  clear hb hat hf hc
  go_enter Tryz.func107, Tryz.ntmps107
  go_wp2_with fail
  go_loopg [3] 0 (fun _ v wr => v = .slice none 0 0 ∧ wr = w)
  case atStart => exact ⟨rfl, rfl⟩
  case round =>
    obtain ⟨rfl, hw⟩ := hrel
    subst wr
    go_wp2_with fail
    go_ret
    exact ⟨rfl, rfl⟩
/-- The cases that are read, or the error. -/
structure Sc (e e' : Int) (t : List (List UInt8)) (cs : List CaseD) : Prop where
  go : e = 0 → e' = (casesOf t).2 ∧ (e' = 0 → cs = (casesOf t).1.map (clC chan8))
  no : e ≠ 0 → e' = e
theorem cases_comb {Bd : Nat} {w : World} {rb : Nat} {ws : List (List UInt8)} {e : Int} (t : List (List UInt8)) (h : Rd Bd w rb ws e) (hw : e = 0 → ws = t) (hA : areB t = true) (hl : t.length ≤ 100000) (hx : ∀ x ∈ t, x.length ≤ 100000) (hr : Rdy w) (hB : 7 ≤ Bd) :
    Calls Tryz.prog 107 #[.pointer (some ⟨rb, 0, none⟩)] w fun en w' => ∃ v cs e' ws', en = .returned v ∧ CRow 57 w.heap.size w' v cs ∧ Sc e e' t cs ∧ Rd Bd w' rb ws' e' ∧ Turns (fun k => k = rb) w w' := by
  by_cases he : e = 0
  · subst he
    rw [hw rfl] at h
    refine (cases_yes h hA hl hx hr hB).mono ?_
    rintro en w1 ⟨v, cs, e', r', rfl, R, h1, h2, h3, h4⟩
    exact ⟨v, cs, e', r', rfl, R, ⟨fun _ => ⟨h1, h2⟩, fun h => absurd rfl h⟩, h3, h4⟩
  · refine (cases_no h he).mono ?_
    rintro en w1 ⟨rfl, rfl⟩
    exact ⟨_, [], e, ws, rfl, CRow.nil _ _ _, ⟨fun h => absurd h he, fun _ => rfl⟩, h, Turns.refl _ _⟩

/-- What read answers: the op's fields, or an error. -/
structure RdA (k : Nat) (ws : List (List UInt8)) (n v wt : Int) (cs : List CaseD) (e : Int) : Prop where
  err : e = (readD k ws).2
  ok : e = 0 → (⟨k, n, v, wt, cs⟩ : OpD) = clO chan8 (readD k ws).1
theorem rda_one {k : Nat} (hk : k ≠ 4 ∧ k ≠ 5 ∧ k ≠ 7 ∧ k ≠ 9) {x : List UInt8} {n e : Int} (h : St 0 n e (numOf x)) : RdA k [x] n 0 0 [] e := by
  obtain ⟨h1, h2⟩ := h.go rfl
  have hr : readD k [x] = if (numOf x).2 = 0 then (⟨(k : Int), (numOf x).1, 0, 0, []⟩, 0) else (zeroD, (numOf x).2) := by
    unfold readD
    rw [if_neg hk.1, if_neg hk.2.1, if_neg hk.2.2.1, if_neg hk.2.2.2]
  by_cases h0 : (numOf x).2 = 0
  · rw [if_pos h0] at hr
    exact ⟨by rw [hr, h1, h0], fun _ => by rw [hr, h2 h0]; rfl⟩
  · rw [if_neg h0] at hr
    exact ⟨by rw [hr, h1], fun he => absurd (h1.symm.trans he) h0⟩
theorem rda_send {x y z : List UInt8} {n v wt e1 e2 e3 : Int} (h1 : St 0 n e1 (numOf x)) (h2 : St e1 v e2 (numOf y)) (h3 : St e2 wt e3 (waitOf z)) : RdA 4 [x, y, z] n v wt [] e3 := by
  obtain ⟨a1, b1⟩ := h1.go rfl
  have hr : readD 4 [x, y, z] = if (numOf x).2 = 0 then (if (numOf y).2 = 0 then (if (waitOf z).2 = 0 then (⟨4, (numOf x).1, (numOf y).1, (waitOf z).1, []⟩, 0) else (zeroD, (waitOf z).2)) else (zeroD, (numOf y).2)) else (zeroD, (numOf x).2) := rfl
  by_cases c1 : (numOf x).2 = 0
  · obtain ⟨a2, b2⟩ := h2.go (a1.trans c1)
    rw [if_pos c1] at hr
    by_cases c2 : (numOf y).2 = 0
    · obtain ⟨a3, b3⟩ := h3.go (a2.trans c2)
      rw [if_pos c2] at hr
      by_cases c3 : (waitOf z).2 = 0
      · rw [if_pos c3] at hr
        exact ⟨by rw [hr, a3, c3], fun _ => by rw [hr, b1 c1, b2 c2, b3 c3]; rfl⟩
      · rw [if_neg c3] at hr
        exact ⟨by rw [hr, a3], fun he => absurd (a3.symm.trans he) c3⟩
    · rw [if_neg c2] at hr
      have a3 := h3.no (by rw [a2]; exact c2)
      exact ⟨by rw [hr, a3, a2], fun he => absurd (a2.symm.trans (a3.symm.trans he)) c2⟩
  · rw [if_neg c1] at hr
    have a2 := h2.no (by rw [a1]; exact c1)
    have a3 := h3.no (by rw [a2, a1]; exact c1)
    exact ⟨by rw [hr, a3, a2, a1], fun he => absurd (a1.symm.trans (a2.symm.trans (a3.symm.trans he))) c1⟩
theorem rda_recv {x z : List UInt8} {n wt e1 e3 : Int} (h1 : St 0 n e1 (numOf x)) (h3 : St e1 wt e3 (waitOf z)) : RdA 5 [x, z] n 0 wt [] e3 := by
  obtain ⟨a1, b1⟩ := h1.go rfl
  have hr : readD 5 [x, z] = if (numOf x).2 = 0 then (if (waitOf z).2 = 0 then (⟨5, (numOf x).1, 0, (waitOf z).1, []⟩, 0) else (zeroD, (waitOf z).2)) else (zeroD, (numOf x).2) := rfl
  by_cases c1 : (numOf x).2 = 0
  · obtain ⟨a3, b3⟩ := h3.go (a1.trans c1)
    rw [if_pos c1] at hr
    by_cases c3 : (waitOf z).2 = 0
    · rw [if_pos c3] at hr
      exact ⟨by rw [hr, a3, c3], fun _ => by rw [hr, b1 c1, b3 c3]; rfl⟩
    · rw [if_neg c3] at hr
      exact ⟨by rw [hr, a3], fun he => absurd (a3.symm.trans he) c3⟩
  · rw [if_neg c1] at hr
    have a3 := h3.no (by rw [a1]; exact c1)
    exact ⟨by rw [hr, a3, a1], fun he => absurd (a1.symm.trans (a3.symm.trans he)) c1⟩
theorem rda_pick {z : List UInt8} {t : List (List UInt8)} {wt e1 e2 : Int} {cs : List CaseD} (h1 : St 0 wt e1 (waitOf z)) (h2 : Sc e1 e2 t cs) : RdA 7 (z :: t) 0 0 wt cs e2 := by
  obtain ⟨a1, b1⟩ := h1.go rfl
  have hr : readD 7 (z :: t) = if (waitOf z).2 = 0 then (if (casesOf t).2 = 0 then (⟨7, 0, 0, (waitOf z).1, (casesOf t).1⟩, 0) else (zeroD, (casesOf t).2)) else (zeroD, (waitOf z).2) := rfl
  by_cases c1 : (waitOf z).2 = 0
  · obtain ⟨a2, b2⟩ := h2.go (a1.trans c1)
    rw [if_pos c1] at hr
    by_cases c2 : (casesOf t).2 = 0
    · rw [if_pos c2] at hr
      exact ⟨by rw [hr, a2, c2], fun he => by rw [hr, b1 c1, b2 he]; rfl⟩
    · rw [if_neg c2] at hr
      exact ⟨by rw [hr, a2], fun he => absurd (a2.symm.trans he) c2⟩
  · rw [if_neg c1] at hr
    have a2 := h2.no (by rw [a1]; exact c1)
    exact ⟨by rw [hr, a2, a1], fun he => absurd (a1.symm.trans (a2.symm.trans he)) c1⟩
end Go.Proofs.YtolljdomnohmdabGreatDoor
namespace Go.Proofs.YtolljdomnohmdabGreatDoor
open Go.RowKit

theorem waits_no {k n v wt : Int} {l : List CaseD} (h : isKindB k = false) : waitsD ⟨k, n, v, wt, l⟩ = false := by unfold waitsD; rw [h]; rfl
theorem waits_none (k n v wt : Int) (a : Option Addr) (m c : Nat) (l : List CaseD) (w : World) (hk : isKindB k = false) :
    Calls Tryz.prog 126 #[.agg #[.int .i64 k, .int .i64 n, .int .i64 v, .int .i64 wt, .slice a m c]] w fun e w' => e = .returned (.bool (waitsD ⟨k, n, v, wt, l⟩)) ∧ Kept w w' := by
  have HC : Hid (waitsD ⟨k, n, v, wt, l⟩ = false) := waits_no hk
  have hi := isKind_any k
  rw [hk] at hi
  go_enter Tryz.func126, Tryz.ntmps126
  go_wp2_with fail
  refine (hi _).mono ?_
  rintro e w1 ⟨rfl, hw⟩
  subst w1
  go_wp2_with fail
  go_ret
  rw [HC.out]
  exact ⟨rfl, (Kept.refl w).alloc _⟩
theorem waits_any (k n v wt : Int) (a : Option Addr) (m c : Nat) (l : List CaseD) (w : World) (hr : Rdy w) :
    Calls Tryz.prog 126 #[.agg #[.int .i64 k, .int .i64 n, .int .i64 v, .int .i64 wt, .slice a m c]] w fun e w' => e = .returned (.bool (waitsD ⟨k, n, v, wt, l⟩)) ∧ Kept w w' := by
  cases hk : isKindB k with
  | false => exact waits_none k n v wt a m c l w hk
  | true =>
    have hi := isKind_any k
    rw [hk] at hi
    have hlt := hr.lt
    have HR : Hid (Rdy w) := hr
    clear hr
    rcases kind_cases hk with rfl | rfl | rfl | rfl | rfl | rfl | rfl | rfl | rfl
    · obtain ⟨_, _, _, g3, _⟩ := HR.out.k1
      clear hk
      go_enter Tryz.func126, Tryz.ntmps126
      go_wp2_with fail
      refine (hi _).mono ?_
      rintro e w1 ⟨rfl, hw⟩
      subst w1
      go_wp2_with fail
      go_ret
      exact ⟨rfl, (Kept.refl w).alloc _⟩
    · obtain ⟨_, _, _, g3, _⟩ := HR.out.k2
      clear hk
      go_enter Tryz.func126, Tryz.ntmps126
      go_wp2_with fail
      refine (hi _).mono ?_
      rintro e w1 ⟨rfl, hw⟩
      subst w1
      go_wp2_with fail
      go_ret
      exact ⟨rfl, (Kept.refl w).alloc _⟩
    · obtain ⟨_, _, _, g3, _⟩ := HR.out.k3
      clear hk
      go_enter Tryz.func126, Tryz.ntmps126
      go_wp2_with fail
      refine (hi _).mono ?_
      rintro e w1 ⟨rfl, hw⟩
      subst w1
      go_wp2_with fail
      go_ret
      exact ⟨rfl, (Kept.refl w).alloc _⟩
    · obtain ⟨_, _, _, g3, _⟩ := HR.out.k4
      clear hk
      go_enter Tryz.func126, Tryz.ntmps126
      go_wp2_with fail
      refine (hi _).mono ?_
      rintro e w1 ⟨rfl, hw⟩
      subst w1
      go_wp2_with fail
      go_ret
      exact ⟨rfl, (Kept.refl w).alloc _⟩
    · obtain ⟨_, _, _, g3, _⟩ := HR.out.k5
      clear hk
      go_enter Tryz.func126, Tryz.ntmps126
      go_wp2_with fail
      refine (hi _).mono ?_
      rintro e w1 ⟨rfl, hw⟩
      subst w1
      go_wp2_with fail
      go_ret
      exact ⟨rfl, (Kept.refl w).alloc _⟩
    · obtain ⟨_, _, _, g3, _⟩ := HR.out.k6
      clear hk
      go_enter Tryz.func126, Tryz.ntmps126
      go_wp2_with fail
      refine (hi _).mono ?_
      rintro e w1 ⟨rfl, hw⟩
      subst w1
      go_wp2_with fail
      go_ret
      exact ⟨rfl, (Kept.refl w).alloc _⟩
    · obtain ⟨_, _, _, g3, _⟩ := HR.out.k7
      clear hk
      go_enter Tryz.func126, Tryz.ntmps126
      go_wp2_with fail
      refine (hi _).mono ?_
      rintro e w1 ⟨rfl, hw⟩
      subst w1
      go_wp2_with fail
      go_ret
      exact ⟨rfl, (Kept.refl w).alloc _⟩
    · obtain ⟨_, _, _, g3, _⟩ := HR.out.k8
      clear hk
      go_enter Tryz.func126, Tryz.ntmps126
      go_wp2_with fail
      refine (hi _).mono ?_
      rintro e w1 ⟨rfl, hw⟩
      subst w1
      go_wp2_with fail
      go_ret
      exact ⟨rfl, (Kept.refl w).alloc _⟩
    · obtain ⟨_, _, _, g3, _⟩ := HR.out.k9
      clear hk
      go_enter Tryz.func126, Tryz.ntmps126
      go_wp2_with fail
      refine (hi _).mono ?_
      rintro e w1 ⟨rfl, hw⟩
      subst w1
      go_wp2_with fail
      go_ret
      exact ⟨rfl, (Kept.refl w).alloc _⟩
end Go.Proofs.YtolljdomnohmdabGreatDoor
