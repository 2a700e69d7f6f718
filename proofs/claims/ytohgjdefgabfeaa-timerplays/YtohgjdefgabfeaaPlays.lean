/- TimerPlays, walked. -/
import Derived.Test.YtohgjdefgabfeaaRCan
import Derived.Test.YtohgjdefgabfeaaTwins
namespace Go.Proofs.Ytohgjdefgabfeaa
open Go.RowKit Tm

structure ActD where
  op : Int
  id : Int
  inn : Int

/-- A call, in the walk's own cells. -/
structure ActAt (w : World) (nb : Nat) (a : ActD) : Prop where
  c1 : w.cell? ⟨nb, 1, none⟩ = some (.int .i64 a.id)
  c2 : w.cell? ⟨nb, 2, none⟩ = some (.int .i64 a.inn)
theorem ActAt.turns {S : Nat → Prop} {w w' : World} {nb : Nat} {a : ActD} (h : ActAt w nb a) (t : Turns S w w') (hn : ¬ S nb) : ActAt w' nb a :=
  ⟨t.cell h.c1 (cell_lt h.c1) hn, t.cell h.c2 (cell_lt h.c2) hn⟩

/-- Both timers, with one row. -/
structure Both (B : Nat) (w0 w : World) (tb : Nat) (rv : Value) (mb : Nat) (lv : Value) (row : List Du) : Prop where
  t : TP 57 53 B w tb rv row
  m : TP 59 29 B w mb lv row
  ap : Apt tb rv mb lv
  tu : Turns (fun _ => False) w0 w
theorem Both.keep {B : Nat} {w0 w w' : World} {tb : Nat} {rv : Value} {mb : Nat} {lv : Value} {row : List Du} (b : Both B w0 w tb rv mb lv row) (t : Turns (fun _ => False) w w') : Both B w0 w' tb rv mb lv row :=
  ⟨b.t.keep t, b.m.keep t, b.ap, b.tu.trans t⟩
theorem Both.mid {B : Nat} {w0 w w1 : World} {tb : Nat} {rv rv1 : Value} {mb : Nat} {lv : Value} {row row1 : List Du} (b : Both B w0 w tb rv mb lv row) (hB : w0.heap.size ≤ B) (o : Out 57 53 B w w1 tb rv rv1 row1) : TP 59 29 B w1 mb lv row ∧ Turns (fun _ => False) w0 w1 :=
  ⟨(b.ap.out o b.m).2, b.t.frame hB b.tu o.tu⟩
theorem Both.next {B : Nat} {w0 w w1 w2 : World} {tb : Nat} {rv rv1 : Value} {mb : Nat} {lv lv1 : Value} {row row1 : List Du} (b : Both B w0 w tb rv mb lv row) (hB : w0.heap.size ≤ B) (o : Out 57 53 B w w1 tb rv rv1 row1) (o2 : Out 59 29 B w1 w2 mb lv lv1 row1) : Both B w0 w2 tb rv1 mb lv1 row1 := by
  have k := b.mid hB o
  have e := b.ap.out o b.m
  have f := e.1.symm.out o2 o.tp
  exact ⟨f.2, o2.tp, f.1.symm, k.1.frame hB k.2 o2.tu⟩
theorem Both.far {B : Nat} {w0 w : World} {tb : Nat} {rv : Value} {mb : Nat} {lv : Value} {row : List Du} (b : Both B w0 w tb rv mb lv row) (k : Nat) (hk : w.heap.size ≤ k) : ¬ Foot tb rv k ∧ ¬ Foot mb lv k :=
  ⟨fun h => by have := (b.t.foot k h).2; omega, fun h => by have := (b.m.foot k h).2; omega⟩
theorem putR_len (row : List Du) (id n : Int) : (putR row id n).length ≤ row.length + 1 := by
  rcases put_cases row id n with ⟨_, _, h⟩ | ⟨_, _, _, h⟩ | ⟨_, _, _, h⟩ <;> (rw [h]; simp)
theorem canR_len (row : List Du) (id : Int) : (canR row id).length ≤ row.length := by
  rcases can_cases row id with ⟨_, _, h⟩ | ⟨k, _, _, _, h⟩
  · rw [h]; exact Nat.le_refl _
  · rw [h, List.length_eraseIdx]; split <;> omega
theorem lenL {B : Nat} {w0 w : World} {tb : Nat} {rv : Value} {mb : Nat} {lv : Value} {row : List Du} (b : Both B w0 w tb rv mb lv row) :
    Calls Try.prog 19 #[.pointer (some ⟨tb, 0, none⟩)] w fun e w' => e = .returned (.int .i64 row.length) ∧ w' = w := len_any b.t

set_option maxHeartbeats 1000000 in
theorem plays_skip (a0 : Option Addr) (n c0 : Nat) (w : World) (h : 80 < (n : Int)) :
    Calls Try.prog 3 #[.slice a0 n c0] w fun e w' => e = .returned (.bool true) ∧ Below w.heap.size w w' := by
  go_enter Try.func3, Try.ntmps3
  go_wp2_with fail
  refine (known_true w).mono ?_
  rintro e w1 ⟨rfl, T1⟩
  go_wp2_with fail
  go_ret
  exact ⟨rfl, T1.below (fun _ h => h.elim) (Nat.le_refl _)⟩

/-- A row of calls, as it came in. -/
def ActRow (w : World) (a0 : Option Addr) (n : Nat) : Prop :=
  ∀ j, j < n → ∃ (b f : Nat) (a : ActD), a0 = some ⟨b, f, none⟩ ∧ w.cell? ⟨b, f + j * 3, none⟩ = some (.int .i64 a.op) ∧ w.cell? ⟨b, f + j * 3 + 1, none⟩ = some (.int .i64 a.id) ∧ w.cell? ⟨b, f + j * 3 + 2, none⟩ = some (.int .i64 a.inn)

set_option maxHeartbeats 8000000 in
set_option maxRecDepth 100000 in
theorem plays_any (n c0 : Nat) (w : World) (hn : n ≤ 80) (a0 : Option Addr) (hA : ActRow w a0 n) :
    Calls Try.prog 3 #[.slice a0 n c0] w fun e w' => e = .returned (.bool true) ∧ Below w.heap.size w w' := by
  have g1 : decide (80 < (n : Int)) = false := decide_eq_false (by omega)
  have HA : Hid (ActRow w a0 n) := hA
  clear hA
  go_enter Try.func3, Try.ntmps3
  go_wp2_with fail
  refine (known_true w).mono ?_
  rintro e w1 ⟨rfl, T1⟩
  go_wp2_with fail
  refine (new_any w.heap.size w1 T1.size).mono ?_
  rintro e w2 ⟨tb0, rfl, h2, t2, _⟩
  have T2 := T1.trans t2
  have F2 := h2.foot
  have B0 : Both w.heap.size w (w2.alloc (.cells #[.slice none 0 0] 29)) tb0 (.slice none 0 0) w2.heap.size (.slice none 0 0) [] := by
    refine ⟨h2.keep ((Turns.refl _ _).alloc _), ⟨World.ownsRow_nil _ _ _ _, World.ownsRow_lit w2 #[.slice none 0 0] 1 T2.size (by unfold maxLen; omega) rfl, by simp [Value.ownBlock], pos_nil, by simp⟩, ?_, T2.alloc _⟩
    intro k hk hf
    have := (F2 k hk).2
    rcases hf with rfl | hf
    · omega
    · simp [Value.ownBlock] at hf
  clear h2 t2 T1 T2 F2
  generalize hmb : w2.heap.size = mb at *
  have HMB : Hid (w2.heap.size = mb) := hmb
  clear hmb
  go_wp2_with fail
  rw [HMB.out]
  go_loopw [3, 5] (fun p i wr => ∃ (c tb : Nat) (rv lv : Value) (row : List Du), p = .pointer (some ⟨tb, 0, none⟩) ∧ i = .int .i64 c ∧ c ≤ n ∧ row.length ≤ c ∧ Both w.heap.size w wr tb rv mb lv row)
    (fun _ i _ => n - (intOf i).toNat)
  case atStart => exact ⟨0, tb0, _, _, [], rfl, rfl, by omega, by simp, B0⟩
  case round =>
    obtain ⟨c, tb, rv, lv, row, rfl, rfl, hc, hrl, BB⟩ := hrel
    clear B0 HMB
    by_cases hcn : c < n
    · obtain ⟨b, f, a, rfl, x0, x1, x2⟩ := HA.out c hcn
      have L0 : Hid (b < w.heap.size) := cell_lt x0
      have y0 := BB.tu.cell x0 L0.out (fun x => x)
      have y1 := BB.tu.cell x1 L0.out (fun x => x)
      have y2 := BB.tu.cell x2 L0.out (fun x => x)
      clear x0 x1 x2 HA
      have b1 : (c : Int) < (n : Int) := by omega
      have b2 : (0 : Int) ≤ (c : Int) := by omega
      have K0 : ActAt (wr.alloc (.cells #[.int .i64 a.op, .int .i64 a.id, .int .i64 a.inn] 31)) wr.heap.size a := by
        refine ⟨?_, ?_⟩ <;> (rw [World.cell?_alloc_at _ _ _ _ rfl]; rfl)
      have far := BB.far wr.heap.size (Nat.le_refl wr.heap.size)
      have BB0 := BB.keep ((Turns.refl (fun _ => False) wr).alloc (.cells #[.int .i64 a.op, .int .i64 a.id, .int .i64 a.inn] 31))
      by_cases e1 : a.op = 1
      · rw [e1] at y0 K0 BB0
        have BB1 : Both w.heap.size w (wr.alloc (.cells #[.int .i64 1, .int .i64 a.id, .int .i64 a.inn] 31)) tb rv mb lv row := BB0
        have K1 : ActAt (wr.alloc (.cells #[.int .i64 1, .int .i64 a.id, .int .i64 a.inn] 31)) wr.heap.size a := K0
        have BB2 := BB1.keep (Turns.refl (fun _ => False) _).drew
        have K2 := K1.turns (Turns.refl (fun _ => False) _).drew (fun h => h)
        have f0 : (putE row a.id a.inn != putE row a.id a.inn) = false := by simp
        have hrX := Nat.le_trans (putR_len row a.id a.inn) (Nat.add_le_add_right hrl 1)
        go_wp2_with fail
        go_region_held3 (fun w' => w'.cell? ⟨wr.heap.size, 1, none⟩ = some (.int .i64 a.id) ∧ w'.cell? ⟨wr.heap.size, 2, none⟩ = some (.int .i64 a.inn)) (go_keep) (first | (go_at_call 9; refine (put_any a.id a.inn BB2.t (by omega) BB2.tu.size).mono ?_; rintro e w4 ⟨rfl, rv4, O4⟩; have K4 := K2.turns O4.tu far.1; have M4 := BB2.mid (Nat.le_refl _) O4; have z1 := K4.c1; have z2 := K4.c2) | (go_at_call 10; refine (rput_any a.id a.inn M4.1 (by omega) M4.2.size).mono ?_; rintro e w5 ⟨rfl, lv5, O5⟩; have K5 := K4.turns O5.tu far.2; have x1 := K5.c1; have x2 := K5.c2))
        have BX := BB2.next (Nat.le_refl _) O4 O5
        have KX := K5
        obtain ⟨rowX, hX⟩ : ∃ r, putR row a.id a.inn = r := ⟨_, rfl⟩
        rw [hX] at BX hrX
        clear BB BB0 BB1 BB2 O4 O5 K0 K1 K2 K4 K5 M4 z1 z2 x1 x2 far y0 y1 y2 hX f0
        have z4 := KX.c1
        go_wp2_with fail
        refine (left_any a.id BX.t).mono ?_
        rintro e wA ⟨rfl, tA⟩
        have BA := BX.keep tA
        have KA := KX.turns tA (fun h => h)
        have z5 := KA.c1
        go_wp2_with fail
        refine (rleft_any a.id BA.m).mono ?_
        rintro e wB ⟨rfl, hw⟩
        subst wB
        have BD := BA.keep (Turns.refl (fun _ => False) wA).drew
        obtain ⟨aL, cL, hlvf⟩ := BD.m.sl
        subst hlvf
        have v1 : wA.cell? ⟨mb, 0, none⟩ = some (.slice aL rowX.length cL) := BD.m.c0
        have f1 : (lftB rowX a.id != lftB rowX a.id) = false := by simp
        have f2 : (hasB rowX a.id != hasB rowX a.id) = false := by simp
        have f3 : ((rowX.length : Int) != (rowX.length : Int)) = false := by simp
        clear BX KX KA
        go_wp2_with fail
        go_region_held3 (fun w' => w'.cell? ⟨mb, 0, none⟩ = some (.slice aL rowX.length cL)) (go_keep) (first | (go_at_call 19; refine (lenL BD).mono ?_; rintro e wC ⟨rfl, hw⟩; subst wC))
        go_wp2_with fail
        go_roundw
        case rel => exact ⟨c + 1, _, _, _, rowX, rfl, by go_num, by omega, hrX, BD⟩
        case measure => simp [intOf]; omega
      · have q1 : (a.op == 1) = false := by simp [e1]
        by_cases e2 : a.op = 2
        · rw [e2] at y0 K0 BB0 q1
          have BB1 : Both w.heap.size w (wr.alloc (.cells #[.int .i64 2, .int .i64 a.id, .int .i64 a.inn] 31)) tb rv mb lv row := BB0
          have K1 : ActAt (wr.alloc (.cells #[.int .i64 2, .int .i64 a.id, .int .i64 a.inn] 31)) wr.heap.size a := K0
          have BB2 := BB1.keep (Turns.refl (fun _ => False) _).drew
          have K2 := K1.turns (Turns.refl (fun _ => False) _).drew (fun h => h)
          have f0 : (canE row a.id != canE row a.id) = false := by simp
          have hrX : (canR row a.id).length ≤ c + 1 := by have := canR_len row a.id; omega
          clear e1 q1
          go_wp2_with fail
          go_region_held3 (fun w' => w'.cell? ⟨wr.heap.size, 1, none⟩ = some (.int .i64 a.id)) (go_keep) (first | (go_at_call 11; refine (can_any a.id BB2.t).mono ?_; rintro e w4 ⟨rfl, rv4, O4⟩; have K4 := K2.turns O4.tu far.1; have M4 := BB2.mid (Nat.le_refl _) O4; have z1 := K4.c1) | (go_at_call 12; refine (rcan_any a.id M4.1 M4.2.size).mono ?_; rintro e w5 ⟨rfl, lv5, O5⟩; have K5 := K4.turns O5.tu far.2; have x1 := K5.c1))
          have BX := BB2.next (Nat.le_refl _) O4 O5
          have KX := K5
          obtain ⟨rowX, hX⟩ : ∃ r, canR row a.id = r := ⟨_, rfl⟩
          rw [hX] at BX hrX
          clear BB BB0 BB1 BB2 O4 O5 K0 K1 K2 K4 K5 M4 z1 x1 far y0 y1 y2 hX f0
          have z4 := KX.c1
          go_wp2_with fail
          refine (left_any a.id BX.t).mono ?_
          rintro e wA ⟨rfl, tA⟩
          have BA := BX.keep tA
          have KA := KX.turns tA (fun h => h)
          have z5 := KA.c1
          go_wp2_with fail
          refine (rleft_any a.id BA.m).mono ?_
          rintro e wB ⟨rfl, hw⟩
          subst wB
          have BD := BA.keep (Turns.refl (fun _ => False) wA).drew
          obtain ⟨aL, cL, hlvf⟩ := BD.m.sl
          subst hlvf
          have v1 : wA.cell? ⟨mb, 0, none⟩ = some (.slice aL rowX.length cL) := BD.m.c0
          have f1 : (lftB rowX a.id != lftB rowX a.id) = false := by simp
          have f2 : (hasB rowX a.id != hasB rowX a.id) = false := by simp
          have f3 : ((rowX.length : Int) != (rowX.length : Int)) = false := by simp
          clear BX KX KA
          go_wp2_with fail
          go_region_held3 (fun w' => w'.cell? ⟨mb, 0, none⟩ = some (.slice aL rowX.length cL)) (go_keep) (first | (go_at_call 19; refine (lenL BD).mono ?_; rintro e wC ⟨rfl, hw⟩; subst wC))
          go_wp2_with fail
          go_roundw
          case rel => exact ⟨c + 1, _, _, _, rowX, rfl, by go_num, by omega, hrX, BD⟩
          case measure => simp [intOf]; omega
        · have q2 : (a.op == 2) = false := by simp [e2]
          by_cases e3 : a.op = 3
          · rw [e3] at y0 K0 BB0 q1 q2
            have BB1 : Both w.heap.size w (wr.alloc (.cells #[.int .i64 3, .int .i64 a.id, .int .i64 a.inn] 31)) tb rv mb lv row := BB0
            have K1 : ActAt (wr.alloc (.cells #[.int .i64 3, .int .i64 a.id, .int .i64 a.inn] 31)) wr.heap.size a := K0
            have hrX : (restR row).length ≤ c + 1 := by have := restR_le row; omega
            have hdl := dueR_le row
            have hl2 := BB1.t.len
            clear e1 e2 q1 q2
            go_wp2_with fail
            refine (tick_any BB1.t BB1.tu.size).mono ?_
            rintro e w4 ⟨d4, rfl, i4, rv4, O4, l4⟩
            have K4 := K1.turns O4.tu far.1
            have M4 := BB1.mid (Nat.le_refl _) O4
            have fm := BB1.m.foot
            go_wp2_with fail
            refine (rtick_any M4.1 M4.2.size).mono ?_
            rintro e w5 ⟨d5, rfl, i5, lv5, O5, l5⟩
            have K5 := K4.turns O5.tu far.2
            have j5 := i4.turns O5.tu (fun k e hf => by have h1 := (l4 k e).1; have h2 := (fm k hf).2; omega)
            have BY := BB1.next (Nat.le_refl _) O4 O5
            go_wp2_with fail
            refine (ints_any j5 i5 (by omega)).mono ?_
            rintro e w6 ⟨rfl, t6⟩
            rw [show decide (dueR row = dueR row) = true from by simp]
            have BX := BY.keep t6
            have KX := K5.turns t6 (fun h => h)
            obtain ⟨rowX, hX⟩ : ∃ r, restR row = r := ⟨_, rfl⟩
            rw [hX] at BX hrX
            clear BB BB0 BB1 O4 O5 K0 K1 K4 K5 M4 BY far y0 y1 y2 hX i4 i5 j5 l4 l5 fm
            have z4 := KX.c1
            go_wp2_with fail
            refine (left_any a.id BX.t).mono ?_
            rintro e wA ⟨rfl, tA⟩
            have BA := BX.keep tA
            have KA := KX.turns tA (fun h => h)
            have z5 := KA.c1
            go_wp2_with fail
            refine (rleft_any a.id BA.m).mono ?_
            rintro e wB ⟨rfl, hw⟩
            subst wB
            have BD := BA.keep (Turns.refl (fun _ => False) wA).drew
            obtain ⟨aL, cL, hlvf⟩ := BD.m.sl
            subst hlvf
            have v1 : wA.cell? ⟨mb, 0, none⟩ = some (.slice aL rowX.length cL) := BD.m.c0
            have f1 : (lftB rowX a.id != lftB rowX a.id) = false := by simp
            have f2 : (hasB rowX a.id != hasB rowX a.id) = false := by simp
            have f3 : ((rowX.length : Int) != (rowX.length : Int)) = false := by simp
            clear BX KX KA
            go_wp2_with fail
            go_region_held3 (fun w' => w'.cell? ⟨mb, 0, none⟩ = some (.slice aL rowX.length cL)) (go_keep) (first | (go_at_call 19; refine (lenL BD).mono ?_; rintro e wC ⟨rfl, hw⟩; subst wC))
            go_wp2_with fail
            go_roundw
            case rel => exact ⟨c + 1, _, _, _, rowX, rfl, by go_num, by omega, hrX, BD⟩
            case measure => simp [intOf]; omega
          · have q3 : (a.op == 3) = false := by simp [e3]
            by_cases e4 : a.op = 4
            · rw [e4] at y0 K0 BB0 q1 q2 q3
              have BB1 : Both w.heap.size w (wr.alloc (.cells #[.int .i64 4, .int .i64 a.id, .int .i64 a.inn] 31)) tb rv mb lv row := BB0
              have K1 : ActAt (wr.alloc (.cells #[.int .i64 4, .int .i64 a.id, .int .i64 a.inn] 31)) wr.heap.size a := K0
              have hrX : row.length ≤ c + 1 := by omega
              have hsz : wr.heap.size < (wr.alloc (.cells #[.int .i64 4, .int .i64 a.id, .int .i64 a.inn] 31)).heap.size := by simp
              clear e1 e2 e3 q1 q2 q3
              go_wp2_with fail
              refine (twin_any BB1.t BB1.tu.size).mono ?_
              rintro e w4 ⟨xb, rfl, xv, O4⟩
              have K4 := K1.turns O4.tu (fun h => h)
              have A1 := Apt.twin O4 BB1.t
              have A2 := Apt.twin O4 BB1.m
              have T4 := BB1.tu.trans O4.tu
              have s4 := O4.tu.size
              go_wp2_with fail
              refine (tick_any A1.2 T4.size).mono ?_
              rintro e w5 ⟨d5, rfl, i5, rv5, O5, l5⟩
              have K5 := K4.turns O5.tu far.1
              have C1 := A1.1.symm.out O5 O4.tp
              have C2 := BB1.ap.out O5 A2.2
              have T5 := A1.2.frame (Nat.le_refl _) T4 O5.tu
              have z1 := K5.c1
              go_wp2_with fail
              refine (put_any a.id 3 O5.tp (by have := restR_le row; omega) T5.size).mono ?_
              rintro e w6 ⟨rfl, rv6, O6⟩
              have K6 := K5.turns O6.tu (fun h => by rcases O5.foot _ h with h1 | h1; exact far.1 h1; omega)
              have D1 := C1.1.out O6 C1.2
              have D2 := C2.1.out O6 C2.2
              have T6 := O5.tp.frame (Nat.le_refl _) T5 O6.tu
              have BX : Both w.heap.size w w6 xb xv mb lv row := ⟨D1.2, D2.2, A2.1, T6⟩
              have KX := K6
              obtain ⟨rowX, hX⟩ : ∃ r, row = r := ⟨_, rfl⟩
              rw [hX] at BX hrX
              clear BB BB0 BB1 O4 O5 O6 K0 K1 K4 K5 K6 A1 A2 C1 C2 D1 D2 T4 T5 T6 z1 far y0 y1 y2 hX i5 l5 s4 hsz
              have z4 := KX.c1
              go_wp2_with fail
              refine (left_any a.id BX.t).mono ?_
              rintro e wA ⟨rfl, tA⟩
              have BA := BX.keep tA
              have KA := KX.turns tA (fun h => h)
              have z5 := KA.c1
              go_wp2_with fail
              refine (rleft_any a.id BA.m).mono ?_
              rintro e wB ⟨rfl, hw⟩
              subst wB
              have BD := BA.keep (Turns.refl (fun _ => False) wA).drew
              obtain ⟨aL, cL, hlvf⟩ := BD.m.sl
              subst hlvf
              have v1 : wA.cell? ⟨mb, 0, none⟩ = some (.slice aL rowX.length cL) := BD.m.c0
              have f1 : (lftB rowX a.id != lftB rowX a.id) = false := by simp
              have f2 : (hasB rowX a.id != hasB rowX a.id) = false := by simp
              have f3 : ((rowX.length : Int) != (rowX.length : Int)) = false := by simp
              clear BX KX KA
              go_wp2_with fail
              go_region_held3 (fun w' => w'.cell? ⟨mb, 0, none⟩ = some (.slice aL rowX.length cL)) (go_keep) (first | (go_at_call 19; refine (lenL BD).mono ?_; rintro e wC ⟨rfl, hw⟩; subst wC))
              go_wp2_with fail
              go_roundw
              case rel => exact ⟨c + 1, _, _, _, rowX, rfl, by go_num, by omega, hrX, BD⟩
              case measure => simp [intOf]; omega
            · have q4 : (a.op == 4) = false := by simp [e4]
              have hrX : row.length ≤ c + 1 := by omega
              have BX := BB0
              have KX := K0
              obtain ⟨rowX, hX⟩ : ∃ r, row = r := ⟨_, rfl⟩
              rw [hX] at BX hrX
              clear e1 e2 e3 e4
              clear BB BB0 K0 far hX
              have z4 := KX.c1
              go_wp2_with fail
              refine (left_any a.id BX.t).mono ?_
              rintro e wA ⟨rfl, tA⟩
              have BA := BX.keep tA
              have KA := KX.turns tA (fun h => h)
              have z5 := KA.c1
              go_wp2_with fail
              refine (rleft_any a.id BA.m).mono ?_
              rintro e wB ⟨rfl, hw⟩
              subst wB
              have BD := BA.keep (Turns.refl (fun _ => False) wA).drew
              obtain ⟨aL, cL, hlvf⟩ := BD.m.sl
              subst hlvf
              have v1 : wA.cell? ⟨mb, 0, none⟩ = some (.slice aL rowX.length cL) := BD.m.c0
              have f1 : (lftB rowX a.id != lftB rowX a.id) = false := by simp
              have f2 : (hasB rowX a.id != hasB rowX a.id) = false := by simp
              have f3 : ((rowX.length : Int) != (rowX.length : Int)) = false := by simp
              clear BX KX KA
              go_wp2_with fail
              go_region_held3 (fun w' => w'.cell? ⟨mb, 0, none⟩ = some (.slice aL rowX.length cL)) (go_keep) (first | (go_at_call 19; refine (lenL BD).mono ?_; rintro e wC ⟨rfl, hw⟩; subst wC))
              go_wp2_with fail
              go_roundw
              case rel => exact ⟨c + 1, _, _, _, rowX, rfl, by go_num, by omega, hrX, BD⟩
              case measure => simp [intOf]; omega
    · have hcc : c = n := by omega
      subst hcc
      have b1 : ¬ (c : Int) < (c : Int) := by omega
      go_wp2_with fail
      go_ret
      exact ⟨rfl, BB.tu.below (fun _ h => h.elim) (Nat.le_refl _)⟩
end Go.Proofs.Ytohgjdefgabfeaa
