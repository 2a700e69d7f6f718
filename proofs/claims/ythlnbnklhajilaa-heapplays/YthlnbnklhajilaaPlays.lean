/- HeapPlays answers true at every size and every row of calls. -/
import Derived.Test.YthlnbnklhajilaaPlaysL
namespace Go.Proofs.Ythlnbnklhajilaa
open Go.RowKit Hp

set_option maxHeartbeats 1000000 in
set_option maxRecDepth 100000 in
theorem plays_skip (m : Int) (a0 : Option Addr) (n c0 : Nat) (w : World) (h : 60 < (n : Int)) :
    Calls Try.prog 3 #[.int .i64 m, .slice a0 n c0] w fun e w' => e = .returned (.bool true) ∧ Below w.heap.size w w' := by
  go_enter Try.func3, Try.ntmps3
  go_wp2_with fail
  refine (known_true w).mono ?_
  rintro e w1 ⟨rfl, T1⟩
  go_wp2_with fail
  go_ret
  exact ⟨rfl, T1.below (fun _ h => h.elim) (Nat.le_refl _)⟩

set_option maxHeartbeats 1000000 in
set_option maxRecDepth 100000 in
theorem plays_bad (m : Int) (a0 : Option Addr) (n c0 : Nat) (w : World) (hn : n ≤ 60) (hm : m < 1 ∨ 256 < m) :
    Calls Try.prog 3 #[.int .i64 m, .slice a0 n c0] w fun e w' => e = .returned (.bool true) ∧ Below w.heap.size w w' := by
  have g1 : decide (60 < (n : Int)) = false := decide_eq_false (by omega)
  have HM : Hid (m < 1 ∨ 256 < m) := hm
  clear hm
  go_enter Try.func3, Try.ntmps3
  go_wp2_with fail
  refine (known_true w).mono ?_
  rintro e w1 ⟨rfl, T1⟩
  go_wp2_with fail
  refine (new_bad m w1 HM.out).mono ?_
  rintro e w2 ⟨rfl, hw⟩
  subst w2
  go_wp2_with fail
  refine (rnew_bad m w1 HM.out).mono ?_
  rintro e w2 ⟨rfl, hw⟩
  subst w2
  go_wp2_with fail
  go_ret
  exact ⟨rfl, T1.below (fun _ h => h.elim) (Nat.le_refl _)⟩

set_option maxHeartbeats 8000000 in
set_option maxRecDepth 100000 in
theorem plays_some (most b f n c0 : Nat) (A : Nat → ActD) (w : World) (hn : n ≤ 60) (hm1 : 1 ≤ most) (hm2 : most ≤ 256) (a0 : Option Addr)
    (hA : n = 0 ∨ (a0 = some ⟨b, f, none⟩ ∧ ∀ j, j < n → w.cell? ⟨b, f + j * 4, none⟩ = some (.int .i64 (A j).op) ∧ w.cell? ⟨b, f + j * 4 + 1, none⟩ = some (.int .i64 (A j).id) ∧ w.cell? ⟨b, f + j * 4 + 2, none⟩ = some (.int .i64 (A j).prio) ∧ w.cell? ⟨b, f + j * 4 + 3, none⟩ = some (.int .i64 (A j).seq))) :
    Calls Try.prog 3 #[.int .i64 most, .slice a0 n c0] w fun e w' => e = .returned (.bool true) ∧ Below w.heap.size w w' := by
  have g1 : decide (60 < (n : Int)) = false := decide_eq_false (by omega)
  have HA : Hid (n = 0 ∨ (a0 = some ⟨b, f, none⟩ ∧ ∀ j, j < n → w.cell? ⟨b, f + j * 4, none⟩ = some (.int .i64 (A j).op) ∧ w.cell? ⟨b, f + j * 4 + 1, none⟩ = some (.int .i64 (A j).id) ∧ w.cell? ⟨b, f + j * 4 + 2, none⟩ = some (.int .i64 (A j).prio) ∧ w.cell? ⟨b, f + j * 4 + 3, none⟩ = some (.int .i64 (A j).seq))) := hA
  clear hA
  go_enter Try.func3, Try.ntmps3
  go_wp2_with fail
  refine (known_true w).mono ?_
  rintro e w1 ⟨rfl, T1⟩
  go_wp2_with fail
  refine (new_good w.heap.size most w1 hm1 hm2 T1.size).mono ?_
  rintro e w2 ⟨hb0, rfl, ab0, h2, t2, k1, k2⟩
  have T2 := T1.trans t2
  go_wp2_with fail
  refine (rnew_good w.heap.size most w2 hm1 hm2 T2.size).mono ?_
  rintro e w3 ⟨mb, rfl, r3, t3, k3⟩
  have T3 := T2.trans t3
  have F2 := h2.foot
  have B0 : Both w.heap.size w w3 hb0 (.slice none 0 0) ab0 most mb (.slice none 0 0) most [] [] := by
    refine ⟨h2.turns t3 (fun _ h => h.elim), (fun i _ h => by cases h), r3, Alikes.refl _, ?_, T3⟩
    intro k hk hf
    have := (F2 k hk).2
    rcases hf with rfl | hf
    · omega
    · simp [Value.ownBlock] at hf
  clear h2 r3 t2 t3 T1 T2 T3 F2 k1 k2 k3
  go_wp2_with fail
  go_loopw [5, 9] (fun p i wr => ∃ (c hb : Nat) (rv : Value) (ab ac : Nat) (lv : Value) (row l : List Ent), p = .pointer (some ⟨hb, 0, none⟩) ∧ i = .int .i64 c ∧ c ≤ n ∧ Both w.heap.size w wr hb rv ab ac mb lv most row l)
    (fun _ i _ => n - (intOf i).toNat)
  case atStart => exact ⟨0, hb0, _, ab0, most, _, [], [], rfl, rfl, by omega, B0⟩
  case round =>
    obtain ⟨c, hb, rv, ab, ac, lv, row, l, rfl, rfl, hc, BB⟩ := hrel
    clear B0
    by_cases hcn : c < n
    · rcases HA.out with h | ⟨rfl, hcell⟩
      · omega
      obtain ⟨x0, x1, x2, x3⟩ := hcell c hcn
      have L0 : Hid (b < w.heap.size) := cell_lt x0
      have y0 := BB.tu.cell x0 L0.out (fun x => x)
      have y1 := BB.tu.cell x1 L0.out (fun x => x)
      have y2 := BB.tu.cell x2 L0.out (fun x => x)
      have y3 := BB.tu.cell x3 L0.out (fun x => x)
      generalize A c = a at y0 y1 y2 y3
      clear x0 x1 x2 x3 hcell HA
      have b1 : (c : Int) < (n : Int) := by omega
      have b2 : (0 : Int) ≤ (c : Int) := by omega
      have K0 : ActAt (wr.alloc (.cells #[.int .i64 a.op, .int .i64 a.id, .int .i64 a.prio, .int .i64 a.seq] 32)) wr.heap.size a := by
        refine ⟨?_, ?_, ?_⟩ <;> (rw [World.cell?_alloc_at _ _ _ _ rfl]; rfl)
      have far := BB.far (Nat.le_refl wr.heap.size)
      have BB0 := BB.turns ((Turns.refl (fun _ => False) wr).alloc (.cells #[.int .i64 a.op, .int .i64 a.id, .int .i64 a.prio, .int .i64 a.seq] 32))
      by_cases e1 : a.op = 1
      · rw [e1] at y0 K0 BB0
        have BB1 : Both w.heap.size w (wr.alloc (.cells #[.int .i64 1, .int .i64 a.id, .int .i64 a.prio, .int .i64 a.seq] 32)).drew hb rv ab ac mb lv most row l := BB0.turns (Turns.refl _ _).drew
        have K1 : ActAt (wr.alloc (.cells #[.int .i64 1, .int .i64 a.id, .int .i64 a.prio, .int .i64 a.seq] 32)).drew wr.heap.size a := ⟨K0.c1, K0.c2, K0.c3⟩
        go_wp2_with fail
        go_region_held3 (fun w' => w'.cell? ⟨wr.heap.size, 1, none⟩ = some (.int .i64 a.id) ∧ w'.cell? ⟨wr.heap.size, 2, none⟩ = some (.int .i64 a.prio) ∧ w'.cell? ⟨wr.heap.size, 3, none⟩ = some (.int .i64 a.seq)) (go_keep)
          (first | (go_at_call 11; refine (put_all a.id a.prio a.seq BB1.hp BB1.ord BB1.tu.size).mono ?_; rintro e w4 ⟨r4, rfl, rv4, row4, O4, P4⟩; have K4 := K1.turns O4.tu far.1; have R4 := BB1.heap (Nat.le_refl _) O4; have z1 := K4.c1; have z2 := K4.c2; have z3 := K4.c3) | (go_at_call 12; refine (rput_all a.id a.prio a.seq R4.1 R4.2.2.size).mono ?_; rintro e w5 ⟨r5, rfl, lv5, l5, O5, Q5⟩; obtain ⟨hrr, al5⟩ := put_same BB1.al P4 Q5; subst hrr; have K5 := K4.turns O5.tu (fun e => far.2 (.inl e)); have x1 := K5.c1; have x2 := K5.c2; have x3 := K5.c3))
        have BX := both_next BB1 (Nat.le_refl _) O4 O5 al5
        have KX := K5
        clear BB BB0 BB1 O4 O5 P4 Q5 K0 K1 K4 K5 R4 al5 z1 z2 z3 x1 x2 x3 far y0 y1 y2 y3
        go_wp2_with fail
        refine (top_all BX.hp BX.ord).mono ?_
        rintro e wA ⟨x, ok, rfl, hw, PA⟩
        subst wA
        go_wp2_with fail
        refine (rtop_all BX.rp).mono ?_
        rintro e wB ⟨y, ok', rfl, tB, QB⟩
        obtain ⟨hxy, hok⟩ := toprel_same BX PA QB
        subst hxy
        subst hok
        have BB2 := BX.turns tB
        have KB := KX.turns tB (fun h => h)
        have BD := BB2.turns (Turns.refl (fun _ => False) wB).drew
        obtain ⟨aL, cL, hlvf⟩ := BD.rp.sl
        subst hlvf
        have v1 : wB.cell? ⟨mb, 1, none⟩ = some (.slice aL l5.length cL) := BD.rp.c1
        have v2 := KB.c1
        have f1 : (x != x) = false := by simp
        have f2 : (ok != ok) = false := by simp
        obtain ⟨qh, hqh⟩ : ∃ q, decide (0 ≤ findL l5 a.id) = q := ⟨_, rfl⟩
        have HQ : Hid (decide (0 ≤ findL l5 a.id) = qh) := hqh
        have f3 : ((l5.length : Int) != (l5.length : Int)) = false := by simp
        have f4 : (qh != qh) = false := by simp
        clear hqh BX KX PA QB BB2
        go_wp2_with fail
        go_region_held3 (fun w' => w'.cell? ⟨mb, 1, none⟩ = some (.slice aL l5.length cL) ∧ w'.cell? ⟨wr.heap.size, 1, none⟩ = some (.int .i64 a.id)) (go_keep)
          (first | (go_at_call 20; refine (lenL BD).mono ?_; rintro e wC ⟨rfl, hw⟩; subst wC) | (go_at_call 21; refine (hasL BD a.id qh HQ.out).mono ?_; rintro e wC ⟨rfl, hw⟩; subst wC) | (go_at_call 22; refine (rhasL BD.rp a.id qh HQ.out).mono ?_; rintro e wC ⟨rfl, hw⟩; subst wC) | (go_at_call 24; refine (order_ints BD.hp BD.tu.size).mono ?_; rintro e wE ⟨og, rfl, iE, lE, tE⟩; have BE := BD.turns tE; have m1 := BE.rp.c1; have m2 := tE.cell (p := ⟨wr.heap.size, 1, none⟩) v2 (cell_lt v2) (fun x => x)) | (go_at_call 25; refine (rorder_any BE.rp BE.tu.size).mono ?_; rintro e wF ⟨vF, rfl, TF, sF, iF, tF⟩; have jE := iE.turns tF (fun _ _ h => h); rw [order_same BE sF] at jE; have BF := BE.turns tF; have m3 := BF.rp.c1; have m4 := tF.cell m2 (cell_lt m2) (fun x => x)) | (go_at_call 23; refine (intsL jE iF (by have := BE.hp.len; have := order_same BE sF; rw [← this, List.length_map, drain_len]; omega)).mono ?_; rintro e wG ⟨rfl, tG⟩; have BG := BF.turns tG; have m5 := BG.rp.c1; have m6 := tG.cell m4 (cell_lt m4) (fun x => x)))
        go_wp2_with fail
        go_roundw
        case rel => exact ⟨c + 1, _, _, _, _, _, _, _, rfl, by go_num, by omega, BG⟩
        case measure => simp [intOf]; omega
      · have q1 : (a.op == 1) = false := by simp [e1]
        by_cases e2 : a.op = 2
        · rw [e2] at y0 K0 BB0 q1
          have BB1 : Both w.heap.size w (wr.alloc (.cells #[.int .i64 2, .int .i64 a.id, .int .i64 a.prio, .int .i64 a.seq] 32)).drew hb rv ab ac mb lv most row l := BB0.turns (Turns.refl _ _).drew
          have K1 : ActAt (wr.alloc (.cells #[.int .i64 2, .int .i64 a.id, .int .i64 a.prio, .int .i64 a.seq] 32)).drew wr.heap.size a := ⟨K0.c1, K0.c2, K0.c3⟩
          clear e1 q1
          go_wp2_with fail
          go_region_held3 (fun w' => w'.cell? ⟨wr.heap.size, 1, none⟩ = some (.int .i64 a.id) ∧ w'.cell? ⟨wr.heap.size, 2, none⟩ = some (.int .i64 a.prio)) (go_keep)
            (first | (go_at_call 13; refine (set_all a.id a.prio BB1.hp BB1.ord).mono ?_; rintro e w4 ⟨r4, rfl, rv4, row4, O4, P4⟩; have K4 := K1.turns O4.tu far.1; have R4 := BB1.heap (Nat.le_refl _) O4; have z1 := K4.c1; have z2 := K4.c2) | (go_at_call 14; refine (rset_all a.id a.prio R4.1 R4.2.2.size).mono ?_; rintro e w5 ⟨r5, rfl, lv5, l5, O5, Q5⟩; obtain ⟨hrr, al5⟩ := set_same (good_uniq BB1.hp.good) BB1.al P4 Q5; subst hrr; have K5 := K4.turns O5.tu (fun e => far.2 (.inl e)); have x1 := K5.c1; have x2 := K5.c2))
          have BX := both_next BB1 (Nat.le_refl _) O4 O5 al5
          have KX := K5
          clear BB BB0 BB1 O4 O5 P4 Q5 K0 K1 K4 K5 R4 al5 z1 z2 x1 x2 far y0 y1 y2 y3
          go_wp2_with fail
          refine (top_all BX.hp BX.ord).mono ?_
          rintro e wA ⟨x, ok, rfl, hw, PA⟩
          subst wA
          go_wp2_with fail
          refine (rtop_all BX.rp).mono ?_
          rintro e wB ⟨y, ok', rfl, tB, QB⟩
          obtain ⟨hxy, hok⟩ := toprel_same BX PA QB
          subst hxy
          subst hok
          have BB2 := BX.turns tB
          have KB := KX.turns tB (fun h => h)
          have BD := BB2.turns (Turns.refl (fun _ => False) wB).drew
          obtain ⟨aL, cL, hlvf⟩ := BD.rp.sl
          subst hlvf
          have v1 : wB.cell? ⟨mb, 1, none⟩ = some (.slice aL l5.length cL) := BD.rp.c1
          have v2 := KB.c1
          have f1 : (x != x) = false := by simp
          have f2 : (ok != ok) = false := by simp
          obtain ⟨qh, hqh⟩ : ∃ q, decide (0 ≤ findL l5 a.id) = q := ⟨_, rfl⟩
          have HQ : Hid (decide (0 ≤ findL l5 a.id) = qh) := hqh
          have f3 : ((l5.length : Int) != (l5.length : Int)) = false := by simp
          have f4 : (qh != qh) = false := by simp
          clear hqh BX KX PA QB BB2
          go_wp2_with fail
          go_region_held3 (fun w' => w'.cell? ⟨mb, 1, none⟩ = some (.slice aL l5.length cL) ∧ w'.cell? ⟨wr.heap.size, 1, none⟩ = some (.int .i64 a.id)) (go_keep)
            (first | (go_at_call 20; refine (lenL BD).mono ?_; rintro e wC ⟨rfl, hw⟩; subst wC) | (go_at_call 21; refine (hasL BD a.id qh HQ.out).mono ?_; rintro e wC ⟨rfl, hw⟩; subst wC) | (go_at_call 22; refine (rhasL BD.rp a.id qh HQ.out).mono ?_; rintro e wC ⟨rfl, hw⟩; subst wC) | (go_at_call 24; refine (order_ints BD.hp BD.tu.size).mono ?_; rintro e wE ⟨og, rfl, iE, lE, tE⟩; have BE := BD.turns tE; have m1 := BE.rp.c1; have m2 := tE.cell (p := ⟨wr.heap.size, 1, none⟩) v2 (cell_lt v2) (fun x => x)) | (go_at_call 25; refine (rorder_any BE.rp BE.tu.size).mono ?_; rintro e wF ⟨vF, rfl, TF, sF, iF, tF⟩; have jE := iE.turns tF (fun _ _ h => h); rw [order_same BE sF] at jE; have BF := BE.turns tF; have m3 := BF.rp.c1; have m4 := tF.cell m2 (cell_lt m2) (fun x => x)) | (go_at_call 23; refine (intsL jE iF (by have := BE.hp.len; have := order_same BE sF; rw [← this, List.length_map, drain_len]; omega)).mono ?_; rintro e wG ⟨rfl, tG⟩; have BG := BF.turns tG; have m5 := BG.rp.c1; have m6 := tG.cell m4 (cell_lt m4) (fun x => x)))
          go_wp2_with fail
          go_roundw
          case rel => exact ⟨c + 1, _, _, _, _, _, _, _, rfl, by go_num, by omega, BG⟩
          case measure => simp [intOf]; omega
        · have q2 : (a.op == 2) = false := by simp [e2]
          by_cases e3 : a.op = 3
          · rw [e3] at y0 K0 BB0 q1 q2
            have BB1 : Both w.heap.size w (wr.alloc (.cells #[.int .i64 3, .int .i64 a.id, .int .i64 a.prio, .int .i64 a.seq] 32)).drew hb rv ab ac mb lv most row l := BB0.turns (Turns.refl _ _).drew
            have K1 : ActAt (wr.alloc (.cells #[.int .i64 3, .int .i64 a.id, .int .i64 a.prio, .int .i64 a.seq] 32)).drew wr.heap.size a := ⟨K0.c1, K0.c2, K0.c3⟩
            clear e1 q1 e2 q2
            go_wp2_with fail
            go_region_held3 (fun w' => w'.cell? ⟨wr.heap.size, 1, none⟩ = some (.int .i64 a.id)) (go_keep)
              (first | (go_at_call 15; refine (rem_all a.id BB1.hp BB1.ord).mono ?_; rintro e w4 ⟨r4, rfl, rv4, row4, O4, P4⟩; have K4 := K1.turns O4.tu far.1; have R4 := BB1.heap (Nat.le_refl _) O4; have z1 := K4.c1) | (go_at_call 16; refine (rrem_all a.id R4.1 R4.2.2.size).mono ?_; rintro e w5 ⟨r5, rfl, lv5, l5, O5, Q5⟩; obtain ⟨hrr, al5⟩ := rem_same BB1.al P4 Q5; subst hrr; have K5 := K4.turns O5.tu (fun e => far.2 (.inl e)); have x1 := K5.c1))
            have BX := both_next BB1 (Nat.le_refl _) O4 O5 al5
            have KX := K5
            clear BB BB0 BB1 O4 O5 P4 Q5 K0 K1 K4 K5 R4 al5 z1 x1 far y0 y1 y2 y3
            go_wp2_with fail
            refine (top_all BX.hp BX.ord).mono ?_
            rintro e wA ⟨x, ok, rfl, hw, PA⟩
            subst wA
            go_wp2_with fail
            refine (rtop_all BX.rp).mono ?_
            rintro e wB ⟨y, ok', rfl, tB, QB⟩
            obtain ⟨hxy, hok⟩ := toprel_same BX PA QB
            subst hxy
            subst hok
            have BB2 := BX.turns tB
            have KB := KX.turns tB (fun h => h)
            have BD := BB2.turns (Turns.refl (fun _ => False) wB).drew
            obtain ⟨aL, cL, hlvf⟩ := BD.rp.sl
            subst hlvf
            have v1 : wB.cell? ⟨mb, 1, none⟩ = some (.slice aL l5.length cL) := BD.rp.c1
            have v2 := KB.c1
            have f1 : (x != x) = false := by simp
            have f2 : (ok != ok) = false := by simp
            obtain ⟨qh, hqh⟩ : ∃ q, decide (0 ≤ findL l5 a.id) = q := ⟨_, rfl⟩
            have HQ : Hid (decide (0 ≤ findL l5 a.id) = qh) := hqh
            have f3 : ((l5.length : Int) != (l5.length : Int)) = false := by simp
            have f4 : (qh != qh) = false := by simp
            clear hqh BX KX PA QB BB2
            go_wp2_with fail
            go_region_held3 (fun w' => w'.cell? ⟨mb, 1, none⟩ = some (.slice aL l5.length cL) ∧ w'.cell? ⟨wr.heap.size, 1, none⟩ = some (.int .i64 a.id)) (go_keep)
              (first | (go_at_call 20; refine (lenL BD).mono ?_; rintro e wC ⟨rfl, hw⟩; subst wC) | (go_at_call 21; refine (hasL BD a.id qh HQ.out).mono ?_; rintro e wC ⟨rfl, hw⟩; subst wC) | (go_at_call 22; refine (rhasL BD.rp a.id qh HQ.out).mono ?_; rintro e wC ⟨rfl, hw⟩; subst wC) | (go_at_call 24; refine (order_ints BD.hp BD.tu.size).mono ?_; rintro e wE ⟨og, rfl, iE, lE, tE⟩; have BE := BD.turns tE; have m1 := BE.rp.c1; have m2 := tE.cell (p := ⟨wr.heap.size, 1, none⟩) v2 (cell_lt v2) (fun x => x)) | (go_at_call 25; refine (rorder_any BE.rp BE.tu.size).mono ?_; rintro e wF ⟨vF, rfl, TF, sF, iF, tF⟩; have jE := iE.turns tF (fun _ _ h => h); rw [order_same BE sF] at jE; have BF := BE.turns tF; have m3 := BF.rp.c1; have m4 := tF.cell m2 (cell_lt m2) (fun x => x)) | (go_at_call 23; refine (intsL jE iF (by have := BE.hp.len; have := order_same BE sF; rw [← this, List.length_map, drain_len]; omega)).mono ?_; rintro e wG ⟨rfl, tG⟩; have BG := BF.turns tG; have m5 := BG.rp.c1; have m6 := tG.cell m4 (cell_lt m4) (fun x => x)))
            go_wp2_with fail
            go_roundw
            case rel => exact ⟨c + 1, _, _, _, _, _, _, _, rfl, by go_num, by omega, BG⟩
            case measure => simp [intOf]; omega
          · have q3 : (a.op == 3) = false := by simp [e3]
            by_cases e4 : a.op = 4
            · rw [e4] at y0 K0 BB0 q1 q2 q3
              clear e1 q1 e2 q2 e3 q3
              go_wp2_with fail
              refine (twin_any BB0.hp BB0.tu.size).mono ?_
              rintro e w4 ⟨hb4, rfl, rv4, ab4, ac4, OT⟩
              have K4 := K0.turns OT.tu (fun h => h)
              have BT := BB0.turns OT.tu
              obtain ⟨u1, u2, u3⟩ := K4
              have K4 : ActAt w4 wr.heap.size a := ⟨u1, u2, u3⟩
              go_wp2_with fail
              refine (put_all a.id a.prio a.seq BT.hp BT.ord BT.tu.size).mono ?_
              rintro e w5 ⟨r5, rfl, rv5, row5, O5, P5⟩
              have K5 := K4.turns O5.tu far.1
              obtain ⟨u4, u5, u6⟩ := K5
              have K5 : ActAt w5 wr.heap.size a := ⟨u4, u5, u6⟩
              have far5 : ¬ Foot hb rv5 ab wr.heap.size := by
                intro hf
                have hlt : wr.heap.size < w4.heap.size := cell_lt u1
                rcases hf with hf | hf | hf
                · exact far.1 (.inl hf)
                · exact far.1 (.inr (.inl hf))
                · rcases O5.own with o | o
                  · exact far.1 (.inr (.inr (by rw [← o]; exact hf)))
                  · have := o _ hf; omega
              go_wp2_with fail
              refine (set_all a.id a.prio O5.hp O5.ord).mono ?_
              rintro e w6 ⟨r6, rfl, rv6, row6, O6, P6⟩
              have KX := K5.turns O6.tu far5
              have BX := both_twin BB0 (Nat.le_refl _) OT O5 O6
              clear BB BB0 BT OT O5 O6 P5 P6 K0 K4 K5 far far5 y0 y1 y2 y3 u1 u2 u3 u4 u5 u6
              go_wp2_with fail
              refine (top_all BX.hp BX.ord).mono ?_
              rintro e wA ⟨x, ok, rfl, hw, PA⟩
              subst wA
              go_wp2_with fail
              refine (rtop_all BX.rp).mono ?_
              rintro e wB ⟨y, ok', rfl, tB, QB⟩
              obtain ⟨hxy, hok⟩ := toprel_same BX PA QB
              subst hxy
              subst hok
              have BB2 := BX.turns tB
              have KB := KX.turns tB (fun h => h)
              have BD := BB2.turns (Turns.refl (fun _ => False) wB).drew
              obtain ⟨aL, cL, hlvf⟩ := BD.rp.sl
              subst hlvf
              have v1 : wB.cell? ⟨mb, 1, none⟩ = some (.slice aL l.length cL) := BD.rp.c1
              have v2 := KB.c1
              have f1 : (x != x) = false := by simp
              have f2 : (ok != ok) = false := by simp
              obtain ⟨qh, hqh⟩ : ∃ q, decide (0 ≤ findL l a.id) = q := ⟨_, rfl⟩
              have HQ : Hid (decide (0 ≤ findL l a.id) = qh) := hqh
              have f3 : ((l.length : Int) != (l.length : Int)) = false := by simp
              have f4 : (qh != qh) = false := by simp
              clear hqh BX KX PA QB BB2
              go_wp2_with fail
              go_region_held3 (fun w' => w'.cell? ⟨mb, 1, none⟩ = some (.slice aL l.length cL) ∧ w'.cell? ⟨wr.heap.size, 1, none⟩ = some (.int .i64 a.id)) (go_keep)
                (first | (go_at_call 20; refine (lenL BD).mono ?_; rintro e wC ⟨rfl, hw⟩; subst wC) | (go_at_call 21; refine (hasL BD a.id qh HQ.out).mono ?_; rintro e wC ⟨rfl, hw⟩; subst wC) | (go_at_call 22; refine (rhasL BD.rp a.id qh HQ.out).mono ?_; rintro e wC ⟨rfl, hw⟩; subst wC) | (go_at_call 24; refine (order_ints BD.hp BD.tu.size).mono ?_; rintro e wE ⟨og, rfl, iE, lE, tE⟩; have BE := BD.turns tE; have m1 := BE.rp.c1; have m2 := tE.cell (p := ⟨wr.heap.size, 1, none⟩) v2 (cell_lt v2) (fun x => x)) | (go_at_call 25; refine (rorder_any BE.rp BE.tu.size).mono ?_; rintro e wF ⟨vF, rfl, TF, sF, iF, tF⟩; have jE := iE.turns tF (fun _ _ h => h); rw [order_same BE sF] at jE; have BF := BE.turns tF; have m3 := BF.rp.c1; have m4 := tF.cell m2 (cell_lt m2) (fun x => x)) | (go_at_call 23; refine (intsL jE iF (by have := BE.hp.len; have := order_same BE sF; rw [← this, List.length_map, drain_len]; omega)).mono ?_; rintro e wG ⟨rfl, tG⟩; have BG := BF.turns tG; have m5 := BG.rp.c1; have m6 := tG.cell m4 (cell_lt m4) (fun x => x)))
              go_wp2_with fail
              go_roundw
              case rel => exact ⟨c + 1, _, _, _, _, _, _, _, rfl, by go_num, by omega, BG⟩
              case measure => simp [intOf]; omega
            · have q4 : (a.op == 4) = false := by simp [e4]
              have BX := BB0
              have KX := K0
              clear e1 e2 e3 e4 BB BB0 K0 far
              go_wp2_with fail
              clear y0 y1 y2 y3
              go_wp2_with fail
              refine (top_all BX.hp BX.ord).mono ?_
              rintro e wA ⟨x, ok, rfl, hw, PA⟩
              subst wA
              go_wp2_with fail
              refine (rtop_all BX.rp).mono ?_
              rintro e wB ⟨y, ok', rfl, tB, QB⟩
              obtain ⟨hxy, hok⟩ := toprel_same BX PA QB
              subst hxy
              subst hok
              have BB2 := BX.turns tB
              have KB := KX.turns tB (fun h => h)
              have BD := BB2.turns (Turns.refl (fun _ => False) wB).drew
              obtain ⟨aL, cL, hlvf⟩ := BD.rp.sl
              subst hlvf
              have v1 : wB.cell? ⟨mb, 1, none⟩ = some (.slice aL l.length cL) := BD.rp.c1
              have v2 := KB.c1
              have f1 : (x != x) = false := by simp
              have f2 : (ok != ok) = false := by simp
              obtain ⟨qh, hqh⟩ : ∃ q, decide (0 ≤ findL l a.id) = q := ⟨_, rfl⟩
              have HQ : Hid (decide (0 ≤ findL l a.id) = qh) := hqh
              have f3 : ((l.length : Int) != (l.length : Int)) = false := by simp
              have f4 : (qh != qh) = false := by simp
              clear hqh BX KX PA QB BB2
              go_wp2_with fail
              go_region_held3 (fun w' => w'.cell? ⟨mb, 1, none⟩ = some (.slice aL l.length cL) ∧ w'.cell? ⟨wr.heap.size, 1, none⟩ = some (.int .i64 a.id)) (go_keep)
                (first | (go_at_call 20; refine (lenL BD).mono ?_; rintro e wC ⟨rfl, hw⟩; subst wC) | (go_at_call 21; refine (hasL BD a.id qh HQ.out).mono ?_; rintro e wC ⟨rfl, hw⟩; subst wC) | (go_at_call 22; refine (rhasL BD.rp a.id qh HQ.out).mono ?_; rintro e wC ⟨rfl, hw⟩; subst wC) | (go_at_call 24; refine (order_ints BD.hp BD.tu.size).mono ?_; rintro e wE ⟨og, rfl, iE, lE, tE⟩; have BE := BD.turns tE; have m1 := BE.rp.c1; have m2 := tE.cell (p := ⟨wr.heap.size, 1, none⟩) v2 (cell_lt v2) (fun x => x)) | (go_at_call 25; refine (rorder_any BE.rp BE.tu.size).mono ?_; rintro e wF ⟨vF, rfl, TF, sF, iF, tF⟩; have jE := iE.turns tF (fun _ _ h => h); rw [order_same BE sF] at jE; have BF := BE.turns tF; have m3 := BF.rp.c1; have m4 := tF.cell m2 (cell_lt m2) (fun x => x)) | (go_at_call 23; refine (intsL jE iF (by have := BE.hp.len; have := order_same BE sF; rw [← this, List.length_map, drain_len]; omega)).mono ?_; rintro e wG ⟨rfl, tG⟩; have BG := BF.turns tG; have m5 := BG.rp.c1; have m6 := tG.cell m4 (cell_lt m4) (fun x => x)))
              go_wp2_with fail
              go_roundw
              case rel => exact ⟨c + 1, _, _, _, _, _, _, _, rfl, by go_num, by omega, BG⟩
              case measure => simp [intOf]; omega
    · have b1 : ¬ (c : Int) < (n : Int) := by omega
      clear hcn HA
      go_wp2_with fail
      go_ret
      exact ⟨rfl, BB.tu.below (fun _ h => h.elim) (Nat.le_refl _)⟩
end Go.Proofs.Ythlnbnklhajilaa
