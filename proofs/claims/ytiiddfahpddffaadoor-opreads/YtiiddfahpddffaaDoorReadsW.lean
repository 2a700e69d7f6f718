/- OpReads, walked. -/
import Derived.Test.YtiiddfahpddffaaDoorKnown
import Derived.Test.YtiiddfahpddffaaDoorRPar7
import Derived.Test.YtiiddfahpddffaaDoorOf
import Derived.Test.YtiiddfahpddffaaDoorSam2
namespace Go.Proofs.YtiiddfahpddffaaDoor
open Go.RowKit

theorem num_in64 (l : List UInt8) : in64 (numOf l).1 := by
  rcases numOf_cases l with ⟨_, e⟩ | ⟨_, e | ⟨m, e, h⟩⟩
  · rw [e]; unfold in64; omega
  · rw [e]; unfold in64; omega
  · rw [e]; exact h
theorem wait_in64 (l : List UInt8) : in64 (waitOf l).1 := by
  have := num_in64 l
  unfold waitOf
  split
  · unfold in64; omega
  · split
    · split
      · unfold in64; omega
      · exact this
    · exact this
theorem consC_in {c : CaseD} {x : List CaseD × Int} (hc : in64 c.chan ∧ in64 c.v) (hx : ∀ d ∈ x.1, in64 d.chan ∧ in64 d.v) : ∀ d ∈ (consC c x).1, in64 d.chan ∧ in64 d.v := by
  unfold consC
  split
  · intro d hd
    rcases List.mem_cons.1 hd with rfl | hd
    · exact hc
    · exact hx d hd
  · intro d hd; cases hd
theorem casesOf_in : ∀ (n : Nat) (ws : List (List UInt8)), ws.length ≤ n → ∀ d ∈ (casesOf ws).1, in64 d.chan ∧ in64 d.v
  | _, [], _ => by intro d hd; simp [casesOf] at hd
  | _, [_], _ => by intro d hd; simp [casesOf] at hd
  | 0, _ :: _ :: _, h => by simp at h
  | n + 1, k :: a :: r, h => by
    rw [casesOf_cons]
    split
    · split
      · cases r with
        | nil => intro d hd; cases hd
        | cons b r' =>
          simp only
          split
          · exact consC_in ⟨num_in64 a, num_in64 b⟩ (casesOf_in n r' (by simp at h; omega))
          · intro d hd; cases hd
      · exact consC_in ⟨num_in64 a, by unfold in64; simp⟩ (casesOf_in n r (by simp at h; omega))
    · intro d hd; cases hd
theorem zero_in : In64 zeroD := ⟨by unfold in64 zeroD; simp, by unfold in64 zeroD; simp, by unfold in64 zeroD; simp, by unfold in64 zeroD; simp, fun c hc => by simp [zeroD] at hc⟩
theorem i0 : in64 0 := by unfold in64; simp
theorem readD_in (k : Nat) (hk : k ≤ 9) (r : List (List UInt8)) : In64 (readD k r).1 := by
  have hkk : in64 (k : Int) := by unfold in64; omega
  unfold readD
  split
  · split <;> (try split) <;> (try split) <;> (try split) <;> first | exact zero_in | exact ⟨by unfold in64; simp, num_in64 _, num_in64 _, wait_in64 _, fun c hc => by cases hc⟩
  · split
    · split <;> (try split) <;> (try split) <;> first | exact zero_in | exact ⟨by unfold in64; simp, num_in64 _, i0, wait_in64 _, fun c hc => by cases hc⟩
    · split
      · split <;> (try split) <;> (try split) <;> first | exact zero_in | exact ⟨by unfold in64; simp, i0, i0, wait_in64 _, casesOf_in _ _ (Nat.le_refl _)⟩
      · split
        · split <;> first | exact zero_in | exact ⟨by unfold in64; simp, i0, i0, i0, fun c hc => by cases hc⟩
        · split <;> (try split) <;> first | exact zero_in | exact ⟨hkk, num_in64 _, i0, i0, fun c hc => by cases hc⟩
theorem parse_in {s : List UInt8} {o : OpD} (h : parseD s = (o, 0)) : In64 o := by
  unfold parseD at h
  split at h
  · simp at h
  · rename_i ws _
    cases ws with
    | nil => simp [parseW] at h
    | cons x r =>
      simp only [parseW] at h
      split at h
      · simp at h
      · rename_i hk
        split at h
        · obtain ⟨h1, _⟩ := checked_inv h
          have := readD_in (kindOf x) (kindOf_word hk).2.2 r
          rw [h1] at this
          exact this
        · simp at h
theorem parse_few {s : List UInt8} {o : OpD} {e : Int} (h : parseD s = (o, e)) : o.cases.length ≤ 4 := by
  by_cases he : e = 0
  · subst he
    have ht := taken_of (text_parse h).2
    rcases kind_cases ht.kind with hk | hk | hk | hk | hk | hk | hk | hk | hk
    all_goals
      first
      | exact ht.many (by rw [hk]; rfl)
      | (have hz := ht.takes
         rw [hk] at hz
         simp [takesB, shapeOf] at hz
         simp [hz])
  · have hz : o = zeroD := by
      unfold parseD at h
      split at h
      · exact (Prod.mk.inj h).1.symm
      · unfold parseW at h
        split at h
        · exact (Prod.mk.inj h).1.symm
        · split at h
          · exact (Prod.mk.inj h).1.symm
          · split at h
            · unfold checked at h
              split at h
              · split at h
                · rename_i h0 _
                  rw [h] at h0
                  exact absurd h0 he
                · exact (Prod.mk.inj h).1.symm
              · exact (Prod.mk.inj h).1.symm
            · exact (Prod.mk.inj h).1.symm
    rw [hz]
    simp [zeroD]
set_option maxHeartbeats 4000000 in
set_option maxRecDepth 10000 in
theorem rparse_any (s : List UInt8) (hl : s.length ≤ 1000) (w : World) : RPar s w := by
  cases hso : splitOf s with
  | none =>
    have HP : Hid (parseD s = (zeroD, 2)) := parse_none hso
    have A0 := box_new w.heap.size w 24 [.int .i64 0, .int .i64 0, .int .i64 0, .int .i64 0, .slice none 0 0] (Nat.le_refl _) (by simp)
    have K0 := (Kept.refl w).alloc (.cells #[.int .i64 0, .int .i64 0, .int .i64 0, .int .i64 0, .slice none 0 0] 24)
    have hsp := rsplit_any s (by omega) (w.alloc (.cells #[.int .i64 0, .int .i64 0, .int .i64 0, .int .i64 0, .slice none 0 0] 24))
    rw [hso, show splitE none = 2 from rfl] at hsp
    clear hso
    unfold RPar
    go_enter Tryd.func21, Tryd.ntmps21
    go_wp2_with fail
    refine hsp.mono ?_
    rintro e w1 ⟨v1, rfl, r1, t1⟩
    have A1 := A0.kept t1
    have K1 := K0.trans t1
    clear r1
    have p0 : (w1).cell? ⟨w.heap.size, 0, none⟩ = some (.int .i64 0) := A1.cell 0 (by simp)
    have p1 : (w1).cell? ⟨w.heap.size, 1, none⟩ = some (.int .i64 0) := A1.cell 1 (by simp)
    have p2 : (w1).cell? ⟨w.heap.size, 2, none⟩ = some (.int .i64 0) := A1.cell 2 (by simp)
    have p3 : (w1).cell? ⟨w.heap.size, 3, none⟩ = some (.int .i64 0) := A1.cell 3 (by simp)
    have p4 : (w1).cell? ⟨w.heap.size, 4, none⟩ = some (.slice none 0 0) := A1.cell 4 (by simp)
    have pf0 := A1.frozen 0
    have pf1 := A1.frozen 1
    have pf2 := A1.frozen 2
    have pf3 := A1.frozen 3
    have pf4 := A1.frozen 4
    have pl := A1.lt.2
    go_wp2_with fail
    (try simp only [Exit.inBlock, Exit.then])
    refine bodyPost_ret (v := .tuple #[.agg #[.int .i64 0, .int .i64 0, .int .i64 0, .int .i64 0, .slice none 0 0], .int .i64 2]) ?_ rfl ⟨.slice none 0 0, by rw [HP.out] <;> rfl, by rw [HP.out]; exact CRow.nil _ _ _, ((turn_set5 (w1) w.heap.size (.int .i64 0) (.int .i64 0) (.int .i64 0) (.int .i64 0) (.slice none 0 0)).kept K1 (fun i hi => by omega))⟩
    rw [results_cell_tmp rfl]
    go_simp
  | some ws =>
    cases ws with
    | nil =>
      have HP : Hid (parseD s = (zeroD, 2)) := parse_kind hso rfl
      have A0 := box_new w.heap.size w 24 [.int .i64 0, .int .i64 0, .int .i64 0, .int .i64 0, .slice none 0 0] (Nat.le_refl _) (by simp)
      have K0 := (Kept.refl w).alloc (.cells #[.int .i64 0, .int .i64 0, .int .i64 0, .int .i64 0, .slice none 0 0] 24)
      have hsp := rsplit_any s (by omega) (w.alloc (.cells #[.int .i64 0, .int .i64 0, .int .i64 0, .int .i64 0, .slice none 0 0] 24))
      rw [hso, show splitE (some []) = 0 from rfl, show splitR (some []) = [] from rfl] at hsp
      clear hso
      unfold RPar
      go_enter Tryd.func21, Tryd.ntmps21
      go_wp2_with fail
      refine hsp.mono ?_
      rintro e w1 ⟨v1, rfl, r1, t1⟩
      have A1 := A0.kept t1
      have K1 := K0.trans t1
      obtain ⟨a1, c1, hv1, _, _⟩ := StrRow.view r1
      subst hv1
      clear r1
      have p0 : (w1).cell? ⟨w.heap.size, 0, none⟩ = some (.int .i64 0) := A1.cell 0 (by simp)
      have p1 : (w1).cell? ⟨w.heap.size, 1, none⟩ = some (.int .i64 0) := A1.cell 1 (by simp)
      have p2 : (w1).cell? ⟨w.heap.size, 2, none⟩ = some (.int .i64 0) := A1.cell 2 (by simp)
      have p3 : (w1).cell? ⟨w.heap.size, 3, none⟩ = some (.int .i64 0) := A1.cell 3 (by simp)
      have p4 : (w1).cell? ⟨w.heap.size, 4, none⟩ = some (.slice none 0 0) := A1.cell 4 (by simp)
      have pf0 := A1.frozen 0
      have pf1 := A1.frozen 1
      have pf2 := A1.frozen 2
      have pf3 := A1.frozen 3
      have pf4 := A1.frozen 4
      have pl := A1.lt.2
      go_wp2_with fail
      (try simp only [Exit.inBlock, Exit.then])
      refine bodyPost_ret (v := .tuple #[.agg #[.int .i64 0, .int .i64 0, .int .i64 0, .int .i64 0, .slice none 0 0], .int .i64 2]) ?_ rfl ⟨.slice none 0 0, by rw [HP.out] <;> rfl, by rw [HP.out]; exact CRow.nil _ _ _, ((turn_set5 (w1) w.heap.size (.int .i64 0) (.int .i64 0) (.int .i64 0) (.int .i64 0) (.slice none 0 0)).kept K1 (fun i hi => by omega))⟩
      rw [results_cell_tmp rfl]
      go_simp
    | cons x r =>
      by_cases hk : kindOf x ≠ 0 ∧ fitsB (shapeOf (kindOf x)) (x :: r) = true
      · obtain ⟨hk, hf⟩ := hk
        have h9 := kindOf_word hk
        have hkk : kindOf x = 1 ∨ kindOf x = 2 ∨ kindOf x = 3 ∨ kindOf x = 4 ∨ kindOf x = 5 ∨ kindOf x = 6 ∨ kindOf x = 7 ∨ kindOf x = 8 ∨ kindOf x = 9 := by omega
        have h2 : ∀ K n, kindOf x = K → (shapeOf K).picks = false → aheadN (shapeOf K) = n + 1 → r.length = n := by
          intro K n hK hp hn
          rw [hK] at hf
          unfold fitsB at hf
          rw [if_pos (.inr hp), hn] at hf
          simpa using hf
        rcases hkk with e | e | e | e | e | e | e | e | e
        · obtain ⟨y, rfl⟩ := len1 (h2 1 1 e rfl rfl)
          exact rparse_k1 s x y hl w hso e
        · obtain ⟨y, rfl⟩ := len1 (h2 2 1 e rfl rfl)
          exact rparse_k2 s x y hl w hso e
        · obtain ⟨y, rfl⟩ := len1 (h2 3 1 e rfl rfl)
          exact rparse_k3 s x y hl w hso e
        · obtain ⟨y, z, q, rfl⟩ := len3 (h2 4 3 e rfl rfl)
          exact rparse_k4 s x y z q hl w hso e
        · obtain ⟨y, q, rfl⟩ := len2 (h2 5 2 e rfl rfl)
          exact rparse_k5 s x y q hl w hso e
        · obtain ⟨y, rfl⟩ := len1 (h2 6 1 e rfl rfl)
          exact rparse_k6 s x y hl w hso e
        · rw [e] at hf
          cases r with
          | nil => simp [fitsB, aheadN, shapeOf] at hf
          | cons q r =>
            unfold fitsB at hf
            rw [if_neg (by simp [aheadN, shapeOf])] at hf
            exact rparse_k7 s x q r hl w hso e hf
        · obtain ⟨y, rfl⟩ := len1 (h2 8 1 e rfl rfl)
          exact rparse_k8 s x y hl w hso e
        · obtain rfl := List.eq_nil_of_length_eq_zero (h2 9 0 e rfl rfl)
          exact rparse_k9 s x hl w hso e
      · have HP : Hid (parseD s = (zeroD, 2)) := by
          show _ = _
          by_cases h0 : kindOf x = 0
          · exact parse_kind hso h0
          · refine parse_fit hso h0 ?_
            cases hq : fitsB (shapeOf (kindOf x)) (x :: r)
            · rfl
            · exact absurd ⟨h0, hq⟩ hk
        have hwl := splitOf_len hso
        have HK : Hid (kindOf x ≠ 0 → 1 ≤ kindOf x ∧ kindOf x ≤ 9 ∧ fitsB (shapeOf (kindOf x)) (x :: r) = false) := by
          intro h0
          refine ⟨(kindOf_word h0).2.1, (kindOf_word h0).2.2, ?_⟩
          cases hq : fitsB (shapeOf (kindOf x)) (x :: r)
          · rfl
          · exact absurd ⟨h0, hq⟩ hk
        have A0 := box_new w.heap.size w 24 [.int .i64 0, .int .i64 0, .int .i64 0, .int .i64 0, .slice none 0 0] (Nat.le_refl _) (by simp)
        have K0 := (Kept.refl w).alloc (.cells #[.int .i64 0, .int .i64 0, .int .i64 0, .int .i64 0, .slice none 0 0] 24)
        have hsp := rsplit_any s (by omega) (w.alloc (.cells #[.int .i64 0, .int .i64 0, .int .i64 0, .int .i64 0, .slice none 0 0] 24))
        rw [hso, show splitE (some (x :: r)) = 0 from rfl, show splitR (some (x :: r)) = x :: r from rfl] at hsp
        clear hso hk
        unfold RPar
        go_enter Tryd.func21, Tryd.ntmps21
        go_wp2_with fail
        refine hsp.mono ?_
        rintro e w1 ⟨v1, rfl, r1, t1⟩
        have A1 := A0.kept t1
        have K1 := K0.trans t1
        obtain ⟨a1, c1, hv1, _, hat1⟩ := StrRow.view r1
        subst hv1
        obtain ⟨b, f, rfl, hx0, _⟩ := hat1.head
        have HA1 : Hid (At w1 (some ⟨b, f, none⟩) (x :: r).length (x :: r)) := hat1
        clear hat1 r1 hsp
        have b01 : (0 : Int) < (r.length : Int) + 1 := by omega
        have b02 : ((r.length : Int) + 1 == 0) = false := by simp; omega
        go_wp2_with fail
        refine (rkind_any x w1).mono ?_
        rintro e w2 ⟨rfl, t2⟩
        have A2 := A1.kept t2
        have K2 := K1.trans t2
        have hlt : w.heap.size < w2.heap.size := A2.lt.2
        clear hx0
        have HA2 : Hid (At w2 (some ⟨b, f, none⟩) (x :: r).length (x :: r)) := HA1.out.kept t2
        by_cases h0 : kindOf x = 0
        · rw [h0]
          clear h0 HK
          have p0 : (w2).cell? ⟨w.heap.size, 0, none⟩ = some (.int .i64 0) := A2.cell 0 (by simp)
          have p1 : (w2).cell? ⟨w.heap.size, 1, none⟩ = some (.int .i64 0) := A2.cell 1 (by simp)
          have p2 : (w2).cell? ⟨w.heap.size, 2, none⟩ = some (.int .i64 0) := A2.cell 2 (by simp)
          have p3 : (w2).cell? ⟨w.heap.size, 3, none⟩ = some (.int .i64 0) := A2.cell 3 (by simp)
          have p4 : (w2).cell? ⟨w.heap.size, 4, none⟩ = some (.slice none 0 0) := A2.cell 4 (by simp)
          have pf0 := A2.frozen 0
          have pf1 := A2.frozen 1
          have pf2 := A2.frozen 2
          have pf3 := A2.frozen 3
          have pf4 := A2.frozen 4
          have pl := A2.lt.2
          go_wp2_with fail
          (try simp only [Exit.inBlock, Exit.then])
          refine bodyPost_ret (v := .tuple #[.agg #[.int .i64 0, .int .i64 0, .int .i64 0, .int .i64 0, .slice none 0 0], .int .i64 2]) ?_ rfl ⟨.slice none 0 0, by rw [HP.out] <;> rfl, by rw [HP.out]; exact CRow.nil _ _ _, ((turn_set5 (w2) w.heap.size (.int .i64 0) (.int .i64 0) (.int .i64 0) (.int .i64 0) (.slice none 0 0)).kept K2 (fun i hi => by omega)).alloc _⟩
          rw [results_cell_tmp rfl]
          go_simp
        · obtain ⟨h1, h9, hf⟩ := HK.out h0
          obtain ⟨K, hK⟩ : ∃ z, kindOf x = z := ⟨_, rfl⟩
          rw [hK] at h0 h1 h9 hf ⊢
          clear hK HK
          have hn0 : ((K : Int) == 0) = false := by simp; omega
          have hla := rlaid_any K h1 h9 (some ⟨b, f, none⟩) c1 (x :: r) (w2.alloc (.cells #[.int .i64 K, .int .i64 0, .int .i64 0, .int .i64 0, .slice none 0 0] 24)) (HA2.out.kept ((Kept.refl w2).alloc _)) (by omega)
          rw [hf] at hla
          clear h0 hf
          go_wp2_with fail
          refine hla.mono ?_
          rintro e w3 ⟨rfl, hw3⟩
          subst w3
          have p0 : (w2).cell? ⟨w.heap.size, 0, none⟩ = some (.int .i64 0) := A2.cell 0 (by simp)
          have p1 : (w2).cell? ⟨w.heap.size, 1, none⟩ = some (.int .i64 0) := A2.cell 1 (by simp)
          have p2 : (w2).cell? ⟨w.heap.size, 2, none⟩ = some (.int .i64 0) := A2.cell 2 (by simp)
          have p3 : (w2).cell? ⟨w.heap.size, 3, none⟩ = some (.int .i64 0) := A2.cell 3 (by simp)
          have p4 : (w2).cell? ⟨w.heap.size, 4, none⟩ = some (.slice none 0 0) := A2.cell 4 (by simp)
          have pf0 := A2.frozen 0
          have pf1 := A2.frozen 1
          have pf2 := A2.frozen 2
          have pf3 := A2.frozen 3
          have pf4 := A2.frozen 4
          have pl := A2.lt.2
          go_wp2_with fail
          (try simp only [Exit.inBlock, Exit.then])
          refine bodyPost_ret (v := .tuple #[.agg #[.int .i64 0, .int .i64 0, .int .i64 0, .int .i64 0, .slice none 0 0], .int .i64 2]) ?_ rfl ⟨.slice none 0 0, by rw [HP.out] <;> rfl, by rw [HP.out]; exact CRow.nil _ _ _, ((turn_set5 (w2) w.heap.size (.int .i64 0) (.int .i64 0) (.int .i64 0) (.int .i64 0) (.slice none 0 0)).kept K2 (fun i hi => by omega)).alloc _⟩
          rw [results_cell_tmp rfl]
          go_simp

set_option maxHeartbeats 8000000 in
set_option maxRecDepth 20000 in
theorem reads_some (s : List UInt8) (hl : s.length ≤ 300) (w : World) (hr : Rdy w) :
    Calls Tryd.prog 4 #[.string (B s)] w fun e w' => e = .returned (.bool true) ∧ Kept w w' := by
  have HR : Hid (Rdy w) := hr
  have hsz : (B s).size = s.length := B_size s
  have hb : ¬ (s.length : Int) > 300 := by omega
  clear hr
  obtain ⟨o, ev, hpd⟩ : ∃ o e, parseD s = (o, e) := ⟨_, _, rfl⟩
  have hfew := parse_few hpd
  obtain ⟨k, n, v, wt, cs⟩ := o
  have HPD : Hid (parseD s = (⟨k, n, v, wt, cs⟩, ev)) := hpd
  simp only at hfew
  have hpa := fun w hr => parse_any s (by omega) w hr
  have hra := fun w => rparse_any s (by omega) w
  unfold RPar at hra
  rw [hpd] at hpa hra
  simp only at hpa hra
  clear hpd
  go_enter Tryd.func4, Tryd.ntmps4
  go_wp2_with fail
  refine (known_true _ HR.out).mono ?_
  rintro e w1 ⟨rfl, K1⟩
  go_wp2_with fail
  refine (hpa w1 (HR.out.kept K1)).mono ?_
  rintro e w2 ⟨sv, rfl, R2, t2⟩
  obtain ⟨ax, cx, hsv, hcx, hax⟩ := R2.at
  subst hsv
  have K2 := K1.trans t2
  have HX2 : Hid (AtC w2 ax cs.length cs) := hax
  clear hax R2 hpa
  have BX3 := box_new w.heap.size w2 29 [.int .i64 k, .int .i64 n, .int .i64 v, .int .i64 wt, .slice ax cs.length cx] K2.size (by simp)
  have K3 := K2.alloc (.cells #[.int .i64 k, .int .i64 n, .int .i64 v, .int .i64 wt, .slice ax cs.length cx] 29)
  have HX3 : Hid (AtC (w2.alloc (.cells #[.int .i64 k, .int .i64 n, .int .i64 v, .int .i64 wt, .slice ax cs.length cx] 29)) ax cs.length cs) := HX2.out.kept ((Kept.refl _).alloc _)
  go_wp2_with fail
  refine (hra (w2.alloc (.cells #[.int .i64 k, .int .i64 n, .int .i64 v, .int .i64 wt, .slice ax cs.length cx] 29))).mono ?_
  rintro e w4 ⟨sv, rfl, R4, t4⟩
  obtain ⟨ap, cp, hsv, hcp, hap⟩ := R4.at
  subst hsv
  have K4 := K3.trans t4
  have BX4 := BX3.kept t4
  have HX4 : Hid (AtC w4 ax cs.length cs) := HX3.out.kept t4
  have HP4 : Hid (AtC w4 ap cs.length cs) := hap
  clear hap R4 hra
  have BP5 := box_new w.heap.size w4 24 [.int .i64 k, .int .i64 n, .int .i64 v, .int .i64 wt, .slice ap cs.length cp] K4.size (by simp)
  have K5 := K4.alloc (.cells #[.int .i64 k, .int .i64 n, .int .i64 v, .int .i64 wt, .slice ap cs.length cp] 24)
  have BX5 := BX4.kept ((Kept.refl w4).alloc (.cells #[.int .i64 k, .int .i64 n, .int .i64 v, .int .i64 wt, .slice ap cs.length cp] 24))
  have HX5 : Hid (AtC (w4.alloc (.cells #[.int .i64 k, .int .i64 n, .int .i64 v, .int .i64 wt, .slice ap cs.length cp] 24)) ax cs.length cs) := HX4.out.kept ((Kept.refl _).alloc _)
  have HP5 : Hid (AtC (w4.alloc (.cells #[.int .i64 k, .int .i64 n, .int .i64 v, .int .i64 wt, .slice ap cs.length cp] 24)) ap cs.length cs) := HP4.out.kept ((Kept.refl _).alloc _)
  have fX0 : (w4.alloc (.cells #[.int .i64 k, .int .i64 n, .int .i64 v, .int .i64 wt, .slice ap cs.length cp] 24)).cell? ⟨w2.heap.size, 0, none⟩ = some (.int .i64 k) := BX5.cell 0 (by simp)
  have fX1 : (w4.alloc (.cells #[.int .i64 k, .int .i64 n, .int .i64 v, .int .i64 wt, .slice ap cs.length cp] 24)).cell? ⟨w2.heap.size, 1, none⟩ = some (.int .i64 n) := BX5.cell 1 (by simp)
  have fX2 : (w4.alloc (.cells #[.int .i64 k, .int .i64 n, .int .i64 v, .int .i64 wt, .slice ap cs.length cp] 24)).cell? ⟨w2.heap.size, 2, none⟩ = some (.int .i64 v) := BX5.cell 2 (by simp)
  have fX3 : (w4.alloc (.cells #[.int .i64 k, .int .i64 n, .int .i64 v, .int .i64 wt, .slice ap cs.length cp] 24)).cell? ⟨w2.heap.size, 3, none⟩ = some (.int .i64 wt) := BX5.cell 3 (by simp)
  have fX4 : (w4.alloc (.cells #[.int .i64 k, .int .i64 n, .int .i64 v, .int .i64 wt, .slice ap cs.length cp] 24)).cell? ⟨w2.heap.size, 4, none⟩ = some (.slice ax cs.length cx) := BX5.cell 4 (by simp)
  have fXl := BX5.lt.2
  have fP0 : (w4.alloc (.cells #[.int .i64 k, .int .i64 n, .int .i64 v, .int .i64 wt, .slice ap cs.length cp] 24)).cell? ⟨w4.heap.size, 0, none⟩ = some (.int .i64 k) := BP5.cell 0 (by simp)
  have fP1 : (w4.alloc (.cells #[.int .i64 k, .int .i64 n, .int .i64 v, .int .i64 wt, .slice ap cs.length cp] 24)).cell? ⟨w4.heap.size, 1, none⟩ = some (.int .i64 n) := BP5.cell 1 (by simp)
  have fP2 : (w4.alloc (.cells #[.int .i64 k, .int .i64 n, .int .i64 v, .int .i64 wt, .slice ap cs.length cp] 24)).cell? ⟨w4.heap.size, 2, none⟩ = some (.int .i64 v) := BP5.cell 2 (by simp)
  have fP3 : (w4.alloc (.cells #[.int .i64 k, .int .i64 n, .int .i64 v, .int .i64 wt, .slice ap cs.length cp] 24)).cell? ⟨w4.heap.size, 3, none⟩ = some (.int .i64 wt) := BP5.cell 3 (by simp)
  have fP4 : (w4.alloc (.cells #[.int .i64 k, .int .i64 n, .int .i64 v, .int .i64 wt, .slice ap cs.length cp] 24)).cell? ⟨w4.heap.size, 4, none⟩ = some (.slice ap cs.length cp) := BP5.cell 4 (by simp)
  have fPl := BP5.lt.2
  have hee : (ev != ev) = false := by simp
  go_wp2_with fail
  go_region_held3 (fun w' => w'.cell? ⟨w2.heap.size, 0, none⟩ = some (.int .i64 k) ∧ w'.cell? ⟨w2.heap.size, 1, none⟩ = some (.int .i64 n) ∧ w'.cell? ⟨w2.heap.size, 2, none⟩ = some (.int .i64 v) ∧ w'.cell? ⟨w2.heap.size, 3, none⟩ = some (.int .i64 wt) ∧ w'.cell? ⟨w2.heap.size, 4, none⟩ = some (.slice ax cs.length cx) ∧ w'.cell? ⟨w4.heap.size, 0, none⟩ = some (.int .i64 k) ∧ w'.cell? ⟨w4.heap.size, 1, none⟩ = some (.int .i64 n) ∧ w'.cell? ⟨w4.heap.size, 2, none⟩ = some (.int .i64 v) ∧ w'.cell? ⟨w4.heap.size, 3, none⟩ = some (.int .i64 wt) ∧ w'.cell? ⟨w4.heap.size, 4, none⟩ = some (.slice ap cs.length cp)) (go_keep) (first | (go_at_call 14; refine (rsame_any k n v wt k n v wt bz ap cs.length cs.length dz cp cs cs w6 HQ6.out HP6.out (by omega)).mono ?_; rintro e w7 ⟨rfl, t7⟩; have K7 := K6.trans t7; have BX7 := BX6.kept t7; have HX7 : Hid (AtC w7 ax cs.length cs) := HX6.out.kept t7; have BP7 := BP6.kept t7; have fX0 : w7.cell? ⟨w2.heap.size, 0, none⟩ = some (.int .i64 k) := BX7.cell 0 (by simp); have fX1 : w7.cell? ⟨w2.heap.size, 1, none⟩ = some (.int .i64 n) := BX7.cell 1 (by simp); have fX2 : w7.cell? ⟨w2.heap.size, 2, none⟩ = some (.int .i64 v) := BX7.cell 2 (by simp); have fX3 : w7.cell? ⟨w2.heap.size, 3, none⟩ = some (.int .i64 wt) := BX7.cell 3 (by simp); have fX4 : w7.cell? ⟨w2.heap.size, 4, none⟩ = some (.slice ax cs.length cx) := BX7.cell 4 (by simp); have fXl := BX7.lt.2; have fP0 : w7.cell? ⟨w4.heap.size, 0, none⟩ = some (.int .i64 k) := BP7.cell 0 (by simp); have fP1 : w7.cell? ⟨w4.heap.size, 1, none⟩ = some (.int .i64 n) := BP7.cell 1 (by simp); have fP2 : w7.cell? ⟨w4.heap.size, 2, none⟩ = some (.int .i64 v) := BP7.cell 2 (by simp); have fP3 : w7.cell? ⟨w4.heap.size, 3, none⟩ = some (.int .i64 wt) := BP7.cell 3 (by simp); have fP4 : w7.cell? ⟨w4.heap.size, 4, none⟩ = some (.slice ap cs.length cp) := BP7.cell 4 (by simp); have fPl := BP7.lt.2) | (go_at_call 20; refine (of_any k n v wt ax cs.length cx cs _ (HX5.out.kept ((Kept.refl _).drew)) (by omega)).mono ?_; rintro e w6 ⟨svz, rfl, RZ, t6⟩; have K6 := K5.trans ((Kept.refl _).drew.trans t6); have BX6 := BX5.kept ((Kept.refl _).drew.trans t6); have BP6 := BP5.kept ((Kept.refl _).drew.trans t6); have HX6 : Hid (AtC w6 ax cs.length cs) := HX5.out.kept ((Kept.refl _).drew.trans t6); have HP6 : Hid (AtC w6 ap cs.length cs) := HP5.out.kept ((Kept.refl _).drew.trans t6); have fX0 : w6.cell? ⟨w2.heap.size, 0, none⟩ = some (.int .i64 k) := BX6.cell 0 (by simp); have fX1 : w6.cell? ⟨w2.heap.size, 1, none⟩ = some (.int .i64 n) := BX6.cell 1 (by simp); have fX2 : w6.cell? ⟨w2.heap.size, 2, none⟩ = some (.int .i64 v) := BX6.cell 2 (by simp); have fX3 : w6.cell? ⟨w2.heap.size, 3, none⟩ = some (.int .i64 wt) := BX6.cell 3 (by simp); have fX4 : w6.cell? ⟨w2.heap.size, 4, none⟩ = some (.slice ax cs.length cx) := BX6.cell 4 (by simp); have fXl := BX6.lt.2; have fP0 : w6.cell? ⟨w4.heap.size, 0, none⟩ = some (.int .i64 k) := BP6.cell 0 (by simp); have fP1 : w6.cell? ⟨w4.heap.size, 1, none⟩ = some (.int .i64 n) := BP6.cell 1 (by simp); have fP2 : w6.cell? ⟨w4.heap.size, 2, none⟩ = some (.int .i64 v) := BP6.cell 2 (by simp); have fP3 : w6.cell? ⟨w4.heap.size, 3, none⟩ = some (.int .i64 wt) := BP6.cell 3 (by simp); have fP4 : w6.cell? ⟨w4.heap.size, 4, none⟩ = some (.slice ap cs.length cp) := BP6.cell 4 (by simp); have fPl := BP6.lt.2; obtain ⟨bz, dz, hsz, hdz, hbz⟩ := RZ.at; subst hsz; have HQ6 : Hid (AtC w6 bz cs.length cs) := hbz; clear hbz RZ) | fail)
  rw [sameD_self]
  by_cases he : ev = 0
  · subst he
    have hin : In64 ⟨k, n, v, wt, cs⟩ := parse_in HPD.out
    obtain ⟨htx, hck⟩ := text_parse HPD.out
    have hte := optext_any k n v wt ax cs.length cx cs w7 (HR.out.kept K7) HX7.out (by omega) hck hin
    rw [htx] at hte
    have e1 : ((B s).toList == (B s).toList) = true := by simp
    have HCK : Hid (checkD ⟨k, n, v, wt, cs⟩ = 0) := hck
    clear hck hin htx
    go_wp2_with fail
    refine hte.mono ?_
    rintro e w8 ⟨rfl, t8⟩
    have K8 := K7.trans t8
    have BX8 := BX7.kept t8
    have HX8 : Hid (AtC w8 ax cs.length cs) := HX7.out.kept t8
    clear fX0 fX1 fX2 fX3 fX4 fXl fP0 fP1 fP2 fP3 fP4 fPl
    have fX0 : w8.cell? ⟨w2.heap.size, 0, none⟩ = some (.int .i64 k) := BX8.cell 0 (by simp)
    have fX1 : w8.cell? ⟨w2.heap.size, 1, none⟩ = some (.int .i64 n) := BX8.cell 1 (by simp)
    have fX2 : w8.cell? ⟨w2.heap.size, 2, none⟩ = some (.int .i64 v) := BX8.cell 2 (by simp)
    have fX3 : w8.cell? ⟨w2.heap.size, 3, none⟩ = some (.int .i64 wt) := BX8.cell 3 (by simp)
    have fX4 : w8.cell? ⟨w2.heap.size, 4, none⟩ = some (.slice ax cs.length cx) := BX8.cell 4 (by simp)
    have fXl := BX8.lt.2
    have hch := check_any k n v wt ax cs.length cx cs w8 (HR.out.kept K8) HX8.out (by omega) hcx
    rw [HCK.out] at hch
    go_wp2_with fail
    refine hch.mono ?_
    rintro e w9 ⟨rfl, t9⟩
    go_wp2_with fail
    go_ret
    exact ⟨rfl, K8.trans t9⟩
  · have hne : (ev != 0) = true := by simp [he]
    clear he
    go_wp2_with fail
    go_ret
    exact ⟨rfl, K7⟩

theorem reads_long (s : List UInt8) (hl : ¬ s.length ≤ 300) (w : World) (hr : Rdy w) :
    Calls Tryd.prog 4 #[.string (B s)] w fun e w' => e = .returned (.bool true) ∧ Kept w w' := by
  have hsz : (B s).size = s.length := B_size s
  have hb : (s.length : Int) > 300 := by omega
  go_enter Tryd.func4, Tryd.ntmps4
  go_wp2_with fail
  refine (known_true _ hr).mono ?_
  rintro e w1 ⟨rfl, K1⟩
  go_wp2_with fail
  go_ret
  exact ⟨rfl, K1⟩
theorem reads_any (s : ByteArray) (w : World) (hr : Rdy w) :
    Calls Tryd.prog 4 #[.string s] w fun e w' => e = .returned (.bool true) ∧ Kept w w' := by
  rw [← B_of s]
  by_cases hl : s.data.toList.length ≤ 300
  · exact reads_some _ hl w hr
  · exact reads_long _ hl w hr
end Go.Proofs.YtiiddfahpddffaaDoor
