/- caseSize, areCases, kindOf, fits. -/
import Derived.Test.YtolljdomnohmdabGreatDoorM3
import Derived.Test.YtolljdomnohmdabGreatDoorCheck
import Derived.Test.YtolljdomnohmdabGreatDoorTrn
import Derived.Test.YtolljdomnohmdabGreatDoorM0
namespace Go.Proofs.YtolljdomnohmdabGreatDoor
open Go.RowKit

def csz (x : List UInt8) : Int := if x = sendW then 3 else if x = recvW then 2 else 0
theorem caseSize_any (x : List UInt8) (w : World) : Calls Tryz.prog 121 #[.string (B x)] w fun e w' => e = .returned (.int .i64 (csz x)) ∧ w' = w := by
  by_cases h1 : x = sendW
  · have e1 : ((B x).toList == [115, 101, 110, 100]) = true := by rw [B_is, h1]; rfl
    have HC : Hid (csz x = 3) := by show _ = _; rw [csz, if_pos h1]
    clear h1
    go_enter Tryz.func121, Tryz.ntmps121
    go_wp2_with fail
    go_ret
    rw [HC.out]
    exact ⟨rfl, rfl⟩
  · have e1 : ((B x).toList == [115, 101, 110, 100]) = false := by rw [B_is]; simpa [sendW] using h1
    by_cases h2 : x = recvW
    · have e2 : ((B x).toList == [114, 101, 99, 118]) = true := by rw [B_is, h2]; rfl
      have HC : Hid (csz x = 2) := by show _ = _; rw [csz, if_neg h1, if_pos h2]
      clear h1 h2
      go_enter Tryz.func121, Tryz.ntmps121
      go_wp2_with fail
      go_ret
      rw [HC.out]
      exact ⟨rfl, rfl⟩
    · have e2 : ((B x).toList == [114, 101, 99, 118]) = false := by rw [B_is]; simpa [recvW] using h2
      have HC : Hid (csz x = 0) := by show _ = _; rw [csz, if_neg h1, if_neg h2]
      clear h1 h2
      go_enter Tryz.func121, Tryz.ntmps121
      go_wp2_with fail
      go_ret
      rw [HC.out]
      exact ⟨rfl, rfl⟩

theorem areB_other {x : List UInt8} {r : List (List UInt8)} (h1 : x ≠ sendW) (h2 : x ≠ recvW) : areB (x :: r) = false := by
  cases r with
  | nil => rfl
  | cons a r => rw [areB_cons, if_neg h1, if_neg h2]
theorem areB_send2 (a : List UInt8) : areB [sendW, a] = false := by rw [areB_cons, if_pos rfl]
theorem areB_send3 (a b : List UInt8) (r : List (List UInt8)) : areB (sendW :: a :: b :: r) = areB r := by rw [areB_cons, if_pos rfl]
theorem areB_recv2 (a : List UInt8) (r : List (List UInt8)) : areB (recvW :: a :: r) = areB r := by rw [areB_cons, if_neg (by decide), if_pos rfl]

/-- A slice of words. -/
def Vw (w : World) (v : Value) (ws : List (List UInt8)) : Prop := ∃ a c, v = .slice a ws.length c ∧ ws.length ≤ c ∧ At w a ws.length ws
theorem Vw.kept {w w' : World} {v : Value} {ws : List (List UInt8)} (h : Vw w v ws) (t : Kept w w') : Vw w' v ws := by
  obtain ⟨a, c, h1, h2, h3⟩ := h
  exact ⟨a, c, h1, h2, h3.kept t⟩

set_option maxHeartbeats 2000000 in
theorem areCases_any (a : Option Addr) (c : Nat) (ws : List (List UInt8)) (w : World) (hA : At w a ws.length ws) (hc : ws.length ≤ c) :
    Calls Tryz.prog 104 #[.slice a ws.length c] w fun e w' => e = .returned (.bool (areB ws)) ∧ w' = w := by
  have H0 : Hid (Vw w (.slice a ws.length c) ws) := ⟨a, c, rfl, hc, hA⟩
  clear hA hc
  go_enter Tryz.func104, Tryz.ntmps104
  go_wp2_with fail
  go_step3
  go_wp2_with fail
  go_step3
  go_wp2_with fail
  go_loopg [0, 3] ws.length (fun gk v b wr => ∃ wk : List (List UInt8), b = .bool true ∧ wk.length ≤ gk ∧ wk.length ≤ ws.length ∧ Hid (Vw w v wk) ∧ Hid (areB wk = areB ws) ∧ wr = w)
  case atStart => exact ⟨ws, rfl, Nat.le_refl _, Nat.le_refl _, H0, rfl, rfl⟩
  case round =>
    obtain ⟨wk, rfl, hg, hwl, HV, HE, hw⟩ := hrel
    subst wr
    obtain ⟨a1, c1, rfl, hc1, hat⟩ := HV.out
    cases wk with
    | nil =>
      have HR : Hid (areB ws = true) := by show _ = _; rw [← HE.out]; rfl
      clear hat HV
      go_wp2_with fail
      try rw [Exit.noGoto_ret]
      go_ret
      rw [HR.out]
      exact ⟨rfl, rfl⟩
    | cons x r =>
      obtain ⟨b, f, rfl, hx, _⟩ := hat.head
      have HA : Hid (At w (some ⟨b, f, none⟩) (x :: r).length (x :: r)) := hat
      clear hat HV
      have hcs := caseSize_any x w
      obtain ⟨g3, rfl⟩ : ∃ g, gk = g + 1 := ⟨gk - 1, by simp at hg; omega⟩
      by_cases h1 : x = sendW
      · rw [show csz x = 3 by rw [csz, if_pos h1]] at hcs
        have HX : Hid (x = sendW) := h1
        clear h1
        rcases r with _ | ⟨y, _ | ⟨z, r⟩⟩
        · have HR : Hid (areB ws = false) := by show _ = _; rw [← HE.out]; rfl
          go_wp2_with fail
          refine hcs.mono ?_
          rintro e w1 ⟨rfl, hw⟩
          subst w1
          go_wp2_with fail
          try rw [Exit.noGoto_ret]
          go_ret
          rw [HR.out]
          exact ⟨rfl, rfl⟩
        · have HR : Hid (areB ws = false) := by show _ = _; rw [← HE.out, HX.out, areB_send2]
          go_wp2_with fail
          refine hcs.mono ?_
          rintro e w1 ⟨rfl, hw⟩
          subst w1
          go_wp2_with fail
          try rw [Exit.noGoto_ret]
          go_ret
          rw [HR.out]
          exact ⟨rfl, rfl⟩
        · have HR : Hid (areB r = areB ws) := by show _ = _; rw [← HE.out, HX.out, areB_send3]
          have hd := HA.out.drop 3 (by simp)
          have HD : Hid (At w (some ⟨b, f + 3, none⟩) r.length r) := by show At _ _ _ _; simpa using hd
          clear hd
          have b1 : ¬ 3 > (r.length : Int) + 1 + 1 + 1 := by omega
          by_cases hcap : c1 = 3
          · subst hcap
            obtain rfl : r = [] := List.eq_nil_of_length_eq_zero (by simp only [List.length_cons] at hc1; omega)
            go_wp2_with fail
            refine hcs.mono ?_
            rintro e w1 ⟨rfl, hw⟩
            subst w1
            go_wp2_with fail
            go_roundg g3
            case rel => exact ⟨[], rfl, by simp, by simp, (show Vw w (.slice (some ⟨b, f, none⟩) 0 0) [] from ⟨_, _, rfl, by simp, At.zero _ _⟩), HR, rfl⟩
            case measure => omega
          · have b2 : (3 : Int) ≤ (c1 : Int) := by simp at hc1; omega
            go_wp2_with fail
            refine hcs.mono ?_
            rintro e w1 ⟨rfl, hw⟩
            subst w1
            go_wp2_with fail
            go_roundg g3
            case rel => exact ⟨r, rfl, by simp at hg; omega, by simp at hwl; omega, (show Vw w (.slice (some ⟨b, f + 3, none⟩) r.length (c1 - 3)) r from ⟨_, _, rfl, by simp at hc1; omega, HD.out⟩), HR, rfl⟩
            case measure => omega
      · by_cases h2 : x = recvW
        · rw [show csz x = 2 by rw [csz, if_neg h1, if_pos h2]] at hcs
          have HX : Hid (x = recvW) := h2
          clear h1 h2
          rcases r with _ | ⟨y, r⟩
          · have HR : Hid (areB ws = false) := by show _ = _; rw [← HE.out]; rfl
            go_wp2_with fail
            refine hcs.mono ?_
            rintro e w1 ⟨rfl, hw⟩
            subst w1
            go_wp2_with fail
            try rw [Exit.noGoto_ret]
            go_ret
            rw [HR.out]
            exact ⟨rfl, rfl⟩
          · have HR : Hid (areB r = areB ws) := by show _ = _; rw [← HE.out, HX.out, areB_recv2]
            have hd := HA.out.drop 2 (by simp)
            have HD : Hid (At w (some ⟨b, f + 2, none⟩) r.length r) := by show At _ _ _ _; simpa using hd
            clear hd
            have b1 : ¬ 2 > (r.length : Int) + 1 + 1 := by omega
            by_cases hcap : c1 = 2
            · subst hcap
              obtain rfl : r = [] := List.eq_nil_of_length_eq_zero (by simp only [List.length_cons] at hc1; omega)
              go_wp2_with fail
              refine hcs.mono ?_
              rintro e w1 ⟨rfl, hw⟩
              subst w1
              go_wp2_with fail
              go_roundg g3
              case rel => exact ⟨[], rfl, by simp, by simp, (show Vw w (.slice (some ⟨b, f, none⟩) 0 0) [] from ⟨_, _, rfl, by simp, At.zero _ _⟩), HR, rfl⟩
              case measure => omega
            · have b2 : (2 : Int) ≤ (c1 : Int) := by simp at hc1; omega
              go_wp2_with fail
              refine hcs.mono ?_
              rintro e w1 ⟨rfl, hw⟩
              subst w1
              go_wp2_with fail
              go_roundg g3
              case rel => exact ⟨r, rfl, by simp at hg; omega, by simp at hwl; omega, (show Vw w (.slice (some ⟨b, f + 2, none⟩) r.length (c1 - 2)) r from ⟨_, _, rfl, by simp at hc1; omega, HD.out⟩), HR, rfl⟩
              case measure => omega
        · rw [show csz x = 0 by rw [csz, if_neg h1, if_neg h2]] at hcs
          have HR : Hid (areB ws = false) := by show _ = _; rw [← HE.out]; exact areB_other h1 h2
          clear h1 h2
          go_wp2_with fail
          refine hcs.mono ?_
          rintro e w1 ⟨rfl, hw⟩
          subst w1
          go_wp2_with fail
          try rw [Exit.noGoto_ret]
          go_ret
          rw [HR.out]
          exact ⟨rfl, rfl⟩

theorem kindOf_at {k : Nat} (h1 : 1 ≤ k) (h9 : k ≤ 9) : kindOf (shapeOf k).word = k := by
  have : k = 1 ∨ k = 2 ∨ k = 3 ∨ k = 4 ∨ k = 5 ∨ k = 6 ∨ k = 7 ∨ k = 8 ∨ k = 9 := by omega
  rcases this with rfl | rfl | rfl | rfl | rfl | rfl | rfl | rfl | rfl <;> decide
theorem kindOf_none {x : List UInt8} (h : ∀ j, 1 ≤ j → j < 10 → (shapeOf j).word ≠ x) : kindOf x = 0 := by
  by_cases hk : kindOf x = 0
  · exact hk
  · have := kindOf_word hk
    exact absurd this.1 (h _ this.2.1 (by omega))
/-- The Kind of words. -/
def kindL (ws : List (List UInt8)) : Nat := match ws with
  | [] => 0
  | x :: _ => kindOf x

set_option maxHeartbeats 2000000 in
theorem kindOf_any (a : Option Addr) (c : Nat) (ws : List (List UInt8)) (w : World) (hr : Rdy w) (hA : At w a ws.length ws) (hl : ws.length ≤ 100000) :
    Calls Tryz.prog 83 #[.slice a ws.length c] w fun e w' => e = .returned (.int .i64 (kindL ws)) ∧ Kept w w' := by
  cases ws with
  | nil =>
    clear hA
    go_enter Tryz.func83, Tryz.ntmps83
    go_wp2_with fail
    go_step3
    go_wp2_with fail
    try rw [Exit.noGoto_ret]
    go_ret
    exact ⟨rfl, Kept.refl _⟩
  | cons x r =>
    obtain ⟨b, f, rfl, hx, _⟩ := hA.head
    have HR : Hid (Rdy w) := hr
    have hlt := hr.lt
    have HX : Hid (w.cell? ⟨b, f, none⟩ = some (.string (B x))) := hx
    clear hA hr hx
    go_enter Tryz.func83, Tryz.ntmps83
    go_wp2_with fail
    go_step3
    go_wp2_with fail
    go_step3
    go_wp2_with fail
    go_loopg [3, 4] 9 (fun gk e i wr => ∃ k : Nat, e = .int .i64 0 ∧ i = .int .i64 k ∧ 1 ≤ k ∧ k + gk = 10 ∧ Hid (∀ j, 1 ≤ j → j < k → (shapeOf j).word ≠ x) ∧ Kept w wr)
    case atStart => exact ⟨1, rfl, rfl, by omega, by omega, (fun j h1 h2 => by omega), Kept.refl _⟩
    case round =>
      obtain ⟨k, rfl, rfl, hk1, hk, HN, T⟩ := hrel
      by_cases hk9 : k ≤ 9
      · have b1 : (k : Int) ≤ 9 := by omega
        have b2 : (0 : Int) ≤ (k : Int) := by omega
        have b3 : (k : Int) < 10 := by omega
        have gx := T.cell HX.out
        have gw : wr.cell? ⟨0, k * 7, none⟩ = some (.string (B (shapeOf k).word)) := T.cell (HR.out.sh k hk9 0 _ rfl)
        obtain ⟨wd, hwd⟩ : ∃ z, (shapeOf k).word = z := ⟨_, rfl⟩
        rw [hwd] at gw
        have HW : Hid ((shapeOf k).word = wd) := hwd
        clear hwd
        by_cases he : wd = x
        · have e1 : ((B wd).toList == (B x).toList) = true := by rw [B_eq]; simpa using he
          have HK : Hid (kindOf x = k) := by show _ = _; rw [← he, ← HW.out]; exact kindOf_at hk1 hk9
          clear he
          go_wp2_with fail
          go_quiet (fail)
          go_wp2_with fail
          try rw [Exit.noGoto_ret]
          go_ret
          refine ⟨?_, T.drewN _⟩
          show _ = Ending.returned (.int .i64 ((kindOf x : Nat) : Int))
          rw [HK.out]
          rfl
        · have e1 : ((B wd).toList == (B x).toList) = false := by rw [B_eq]; simpa using he
          have HN2 : Hid (∀ j, 1 ≤ j → j < k + 1 → (shapeOf j).word ≠ x) := by
            intro j h1 h2
            by_cases hj : j = k
            · rw [hj, HW.out]; exact he
            · exact HN.out j h1 (by omega)
          clear he
          obtain ⟨g3, rfl⟩ : ∃ g, gk = g + 1 := ⟨gk - 1, by omega⟩
          go_wp2_with fail
          go_quiet (fail)
          go_wp2_with fail
          go_roundg g3
          case rel => exact ⟨k + 1, rfl, by go_num, by omega, by omega, HN2, T.drewN _⟩
          case measure => omega
      · have b1 : ¬ (k : Int) ≤ 9 := by omega
        obtain rfl : k = 10 := by omega
        have HK : Hid (kindOf x = 0) := by show _ = _; exact kindOf_none HN.out
        go_wp2_with fail
        try rw [Exit.noGoto_ret]
        go_ret
        refine ⟨?_, T⟩
        show _ = Ending.returned (.int .i64 ((kindOf x : Nat) : Int))
        rw [HK.out]
        rfl

/-- How many words there are ahead, by the first k of three flags. -/
def ahN (hn hv hw : Bool) (k : Nat) : Nat := 1 + (if 0 < k ∧ hn = true then 1 else 0) + (if 1 < k ∧ hv = true then 1 else 0) + (if 2 < k ∧ hw = true then 1 else 0)
theorem ahN_end (wd : List UInt8) (hn hv hw hp : Bool) (le mo : Int) : ahN hn hv hw 3 = aheadN ⟨wd, hn, hv, hw, hp, le, mo⟩ := by
  cases hn <;> cases hv <;> cases hw <;> rfl
theorem fits_few {s : ShapeD} {ws : List (List UInt8)} (h : ws.length < aheadN s) : fitsB s ws = false := by
  unfold fitsB
  rw [if_pos (.inl h)]
  simp; omega
theorem fits_plain {s : ShapeD} {ws : List (List UInt8)} (h : s.picks = false) : fitsB s ws = (ws.length == aheadN s) := by
  unfold fitsB
  rw [if_pos (.inr h)]
theorem fits_pick {s : ShapeD} {ws : List (List UInt8)} (h : ¬ ws.length < aheadN s) (hp : s.picks = true) : fitsB s ws = areB (ws.drop (aheadN s)) := by
  unfold fitsB
  rw [if_neg (by rw [hp]; simp; omega)]

theorem idx0 (x y z : Bool) : ∀ wx, (Instr.index 158 (.agg #[.bool x, .bool y, .bool z]) (.int .i64 0)).run Tryz.prog wx = .ok (.bool x) wx := by
  intro wx
  simp [Instr.index, go_sem]
theorem idx1 (x y z : Bool) : ∀ wx, (Instr.index 158 (.agg #[.bool x, .bool y, .bool z]) (.int .i64 1)).run Tryz.prog wx = .ok (.bool y) wx := by
  intro wx
  simp [Instr.index, go_sem]
theorem idx2 (x y z : Bool) : ∀ wx, (Instr.index 158 (.agg #[.bool x, .bool y, .bool z]) (.int .i64 2)).run Tryz.prog wx = .ok (.bool z) wx := by
  intro wx
  simp [Instr.index, go_sem]

set_option maxHeartbeats 2000000 in
set_option maxRecDepth 10000 in
theorem fits_any (wd : List UInt8) (hn hv hw hp : Bool) (le mo : Int) (a : Option Addr) (c : Nat) (ws : List (List UInt8)) (w : World) (hA : At w a ws.length ws) (hc : ws.length ≤ c) :
    Calls Tryz.prog 84 #[.agg #[.string (B wd), .bool hn, .bool hv, .bool hw, .bool hp, .int .i64 le, .int .i64 mo], .slice a ws.length c] w fun e w' => e = .returned (.bool (fitsB ⟨wd, hn, hv, hw, hp, le, mo⟩ ws)) ∧ Kept w w' := by
  have HA : Hid (At w a ws.length ws) := hA
  have GP : Hid ((w.alloc (.cells #[.string (B wd), .bool hn, .bool hv, .bool hw, .bool hp, .int .i64 le, .int .i64 mo] 95)).cell? ⟨w.heap.size, 4, none⟩ = some (.bool hp)) := by show _ = _; rw [World.cell?_alloc_at _ _ _ _ rfl]; rfl
  have K1 := (Kept.refl w).alloc (.cells #[.string (B wd), .bool hn, .bool hv, .bool hw, .bool hp, .int .i64 le, .int .i64 mo] 95)
  clear hA
  go_enter Tryz.func84, Tryz.ntmps84
  go_wp2_with fail
  go_loopg [5, 15] 3 (fun gk h i wr => ∃ k : Nat, h = .int .i64 (ahN hn hv hw k) ∧ i = .int .i64 k ∧ k + gk = 3 ∧ wr = w.alloc (.cells #[.string (B wd), .bool hn, .bool hv, .bool hw, .bool hp, .int .i64 le, .int .i64 mo] 95))
  case atStart => exact ⟨0, rfl, rfl, by omega, rfl⟩
  case round =>
    obtain ⟨k, rfl, rfl, hk, hw'⟩ := hrel
    subst wr
    have hk3 : k = 0 ∨ k = 1 ∨ k = 2 ∨ k = 3 := by omega
    rcases hk3 with rfl | rfl | rfl | rfl
    · obtain ⟨g3, rfl⟩ : ∃ g, gk = g + 1 := ⟨gk - 1, by omega⟩
      have hix := idx0 hn hv hw
      cases hn with
      | true =>
        have HT : Hid (ahN true hv hw 1 = ahN true hv hw 0 + 1) := by show _ = _; cases hv <;> cases hw <;> rfl
        have hb : ahN true hv hw 0 ≤ 4 := by cases hv <;> cases hw <;> decide
        generalize ahN true hv hw 0 = A0 at *
        go_wp2_with fail
        go_roundg g3
        case rel => exact ⟨1, by rw [HT.out]; go_num, rfl, by omega, rfl⟩
        case measure => omega
      | false =>
        have HT : Hid (ahN false hv hw 1 = ahN false hv hw 0) := by show _ = _; cases hv <;> cases hw <;> rfl
        generalize ahN false hv hw 0 = A0 at *
        go_wp2_with fail
        go_roundg g3
        case rel => exact ⟨1, by rw [HT.out], rfl, by omega, rfl⟩
        case measure => omega
    · obtain ⟨g3, rfl⟩ : ∃ g, gk = g + 1 := ⟨gk - 1, by omega⟩
      have hix := idx1 hn hv hw
      cases hv with
      | true =>
        have HT : Hid (ahN hn true hw 2 = ahN hn true hw 1 + 1) := by show _ = _; cases hn <;> cases hw <;> rfl
        have hb : ahN hn true hw 1 ≤ 4 := by cases hn <;> cases hw <;> decide
        generalize ahN hn true hw 1 = A0 at *
        go_wp2_with fail
        go_roundg g3
        case rel => exact ⟨2, by rw [HT.out]; go_num, rfl, by omega, rfl⟩
        case measure => omega
      | false =>
        have HT : Hid (ahN hn false hw 2 = ahN hn false hw 1) := by show _ = _; cases hn <;> cases hw <;> rfl
        generalize ahN hn false hw 1 = A0 at *
        go_wp2_with fail
        go_roundg g3
        case rel => exact ⟨2, by rw [HT.out], rfl, by omega, rfl⟩
        case measure => omega
    · obtain ⟨g3, rfl⟩ : ∃ g, gk = g + 1 := ⟨gk - 1, by omega⟩
      have hix := idx2 hn hv hw
      cases hw with
      | true =>
        have HT : Hid (ahN hn hv true 3 = ahN hn hv true 2 + 1) := by show _ = _; cases hn <;> cases hv <;> rfl
        have hb : ahN hn hv true 2 ≤ 4 := by cases hn <;> cases hv <;> decide
        generalize ahN hn hv true 2 = A0 at *
        go_wp2_with fail
        go_roundg g3
        case rel => exact ⟨3, by rw [HT.out]; go_num, rfl, by omega, rfl⟩
        case measure => omega
      | false =>
        have HT : Hid (ahN hn hv false 3 = ahN hn hv false 2) := by show _ = _; cases hn <;> cases hv <;> rfl
        generalize ahN hn hv false 2 = A0 at *
        go_wp2_with fail
        go_roundg g3
        case rel => exact ⟨3, by rw [HT.out], rfl, by omega, rfl⟩
        case measure => omega
    · have gp := GP.out
      have HE : Hid (ahN hn hv hw 3 = aheadN ⟨wd, hn, hv, hw, hp, le, mo⟩) := ahN_end wd hn hv hw hp le mo
      have hA4 : ahN hn hv hw 3 ≤ 4 := by cases hn <;> cases hv <;> cases hw <;> decide
      have hA1 : 1 ≤ ahN hn hv hw 3 := by cases hn <;> cases hv <;> cases hw <;> decide
      generalize ahN hn hv hw 3 = A at *
      by_cases hm : ws.length < A
      · have b1 : (ws.length : Int) < (A : Int) := by omega
        have b2 : ((ws.length : Int) == (A : Int)) = false := by rw [beq_eq_false_iff_ne]; omega
        have HR : Hid (fitsB ⟨wd, hn, hv, hw, hp, le, mo⟩ ws = false) := by show _ = _; exact fits_few (by rw [← HE.out]; exact hm)
        go_wp2_with fail
        go_ret
        rw [HR.out]
        exact ⟨rfl, K1⟩
      · have b1 : ¬ (ws.length : Int) < (A : Int) := by omega
        cases hp with
        | false =>
          have HR : Hid (fitsB ⟨wd, hn, hv, hw, false, le, mo⟩ ws = ((ws.length : Int) == (A : Int))) := by
            show _ = _
            rw [fits_plain rfl, ← HE.out, Bool.eq_iff_iff, beq_iff_eq, beq_iff_eq]
            omega
          go_wp2_with fail
          go_ret
          rw [HR.out]
          exact ⟨rfl, K1⟩
        | true =>
          have HR : Hid (fitsB ⟨wd, hn, hv, hw, true, le, mo⟩ ws = areB (ws.drop A)) := by show _ = _; rw [fits_pick (by rw [← HE.out]; exact hm) rfl, ← HE.out]
          have hb2 : (A : Int) ≤ (c : Int) := by omega
          have hb3 : (0 : Int) ≤ (A : Int) := by omega
          have hb4 : (A : Int) ≤ (ws.length : Int) := by omega
          obtain ⟨b, f, rfl, _⟩ := HA.out.2 0 (by omega)
          have hd := (HA.out.kept K1).drop A (by omega)
          have hdl : (ws.drop A).length = ws.length - A := by rw [List.length_drop]
          by_cases hcap : c = A
          · subst hcap
            have hz : ws.length - c = 0 := by omega
            have HN : Hid (ws.drop c = []) := List.eq_nil_of_length_eq_zero (by rw [hdl, hz])
            have hac := fun wx => areCases_any (some ⟨b, f, none⟩) 0 [] wx (At.zero _ _) (by simp)
            have hz2 : ws.length = c := by omega
            go_wp2_with fail
            refine (hac _).mono ?_
            rintro e w1 ⟨rfl, hw1⟩
            subst w1
            go_wp2_with fail
            go_ret
            rw [HR.out, HN.out]
            exact ⟨rfl, K1⟩
          · have hac := areCases_any (some ⟨b, f + A, none⟩) (c - A) (ws.drop A) _ (by rw [hdl]; exact hd) (by omega)
            rw [hdl] at hac
            go_wp2_with fail
            refine hac.mono ?_
            rintro e w1 ⟨rfl, hw1⟩
            subst w1
            go_wp2_with fail
            go_ret
            rw [HR.out]
            exact ⟨rfl, K1⟩
end Go.Proofs.YtolljdomnohmdabGreatDoor
namespace Go.Proofs.YtolljdomnohmdabGreatDoor
open Go.RowKit

/-- What append has left of the call's own things. -/
structure App3 (w wr w3 : World) (oi oo : TypeId) (c1 c3 : List Value) (g : Nat) : Prop where
  b1 : Box w.heap.size w3 oi w.heap.size c1
  b2 : Box w.heap.size w3 oo (w.heap.size + 1) [.int .i64 0, .int .i64 0, .int .i64 0, .int .i64 0, .slice none 0 0]
  b3 : Box w.heap.size w3 oo (w.heap.size + 1 + 1) c3
  far : w.heap.size + 3 ≤ g
  kept : Kept w w3
  size : wr.heap.size ≤ w3.heap.size
theorem App3.c1 {w wr w3 : World} {oi oo : TypeId} {k n v wt s : Value} {c3 : List Value} {g : Nat} (h : App3 w wr w3 oi oo [k, n, v, wt, s] c3 g) : w3.cell? ⟨w.heap.size, 4, none⟩ = some s := h.b1.cell 4 (by simp)
theorem App3.c3 {w wr w3 : World} {oi oo : TypeId} {k n v wt s : Value} {c1 : List Value} {g : Nat} (h : App3 w wr w3 oi oo c1 [k, n, v, wt, s] g) : w3.cell? ⟨w.heap.size + 1 + 1, 4, none⟩ = some s := h.b3.cell 4 (by simp)
theorem App3.fr {w wr w3 : World} {oi oo : TypeId} {c1 c3 : List Value} {g : Nat} (h : App3 w wr w3 oi oo c1 c3 g) : w3.frozen? ⟨w.heap.size + 1 + 1, 4, none⟩ = false := h.b3.frozen 4
theorem App3.of {w wr wa w3 : World} {e oi oo : TypeId} {c1 c3 : List Value} {g : Nat} {sv : Value}  {cs : Array Value}
    (ha : wa = wr.drew.alloc (.cells cs e)) (gr : wa.grownBy w3 sv.ownBlock) (at3 : sv.ownBlock = some g ∨ wr.drew.heap.size < g) (hs : ∀ b, sv.ownBlock = some b → w.heap.size + 3 ≤ b)
    (B1 : Box w.heap.size wr oi w.heap.size c1) (B2 : Box w.heap.size wr oo (w.heap.size + 1) [.int .i64 0, .int .i64 0, .int .i64 0, .int .i64 0, .slice none 0 0]) (B3 : Box w.heap.size wr oo (w.heap.size + 1 + 1) c3) (T : Kept w wr) :
    App3 w wr w3 oi oo c1 c3 g := by
  subst ha
  have t1 : Turns (fun k => sv.ownBlock = some k) wr w3 := (((Turns.refl _ wr).drew).alloc (.cells cs e)).trans (Turns.grown gr (fun k e => e))
  have l3 := B3.lt.2
  refine ⟨B1.turns t1 (fun h => by have := hs _ h; omega), B2.turns t1 (fun h => by have := hs _ h; omega), B3.turns t1 (fun h => by have := hs _ h; omega), ?_, t1.kept T (fun i hi => by have := hs i hi; omega), t1.size⟩
  rcases at3 with h | h
  · exact hs g h
  · have : wr.drew.heap.size = wr.heap.size := rfl
    omega

end Go.Proofs.YtolljdomnohmdabGreatDoor
namespace Go.Proofs.YtolljdomnohmdabGreatDoor
open Go.RowKit

set_option maxHeartbeats 4000000 in
set_option maxRecDepth 10000 in
theorem of_any (k n v wt : Int) (a : Option Addr) (m c : Nat) (l : List CaseD) (w : World) (hA : AtC w a m l) (hm : m ≤ 1000000) :
    Calls Tryz.prog 40 #[.agg #[.int .i64 k, .int .i64 n, .int .i64 v, .int .i64 wt, .slice a m c]] w fun e w' => ∃ sv, e = .returned (.agg #[.int .i64 k, .int .i64 n, .int .i64 v, .int .i64 wt, sv]) ∧ CRow 108 w.heap.size w' sv l ∧ Kept w w' := by
  have HA : Hid (AtC w a m l) := hA
  have HL : Hid (l.length = m) := hA.1
  clear hA
  go_enter Tryz.func40, Tryz.ntmps40
  go_wp2_with fail
  go_loopg [4] m (fun gk i wr => ∃ (j : Nat) (sv : Value), i = .int .i64 j ∧ j + gk = m ∧ Box w.heap.size wr 37 w.heap.size [.int .i64 k, .int .i64 n, .int .i64 v, .int .i64 wt, .slice a m c] ∧ Box w.heap.size wr 102 (w.heap.size + 1) [.int .i64 0, .int .i64 0, .int .i64 0, .int .i64 0, .slice none 0 0] ∧ Box w.heap.size wr 102 (w.heap.size + 1 + 1) [.int .i64 k, .int .i64 n, .int .i64 v, .int .i64 wt, sv] ∧ CRow 108 w.heap.size wr sv (l.take j) ∧ Hid (∀ b, sv.ownBlock = some b → w.heap.size + 3 ≤ b) ∧ Kept w wr)
  case atStart =>
    have hb := boxes3 w 37 102 102 [.int .i64 k, .int .i64 n, .int .i64 v, .int .i64 wt, .slice a m c] [.int .i64 0, .int .i64 0, .int .i64 0, .int .i64 0, .slice none 0 0] [.int .i64 k, .int .i64 n, .int .i64 v, .int .i64 wt, .slice none 0 0] (by simp) (by simp) (by simp)
    exact ⟨0, .slice none 0 0, rfl, by omega, hb.1, hb.2.1, hb.2.2.1, CRow.nil _ _ _, (fun b hb => by simp [Value.ownBlock] at hb), hb.2.2.2⟩
  case round =>
    obtain ⟨j, sv, rfl, hj, B1, B2, B3, R, HS, T⟩ := hrel
    have c1 : wr.cell? ⟨w.heap.size, 4, none⟩ = some (.slice a m c) := B1.cell 4 (by simp)
    have l1 := B1.lt.2
    by_cases hjm : j < m
    · obtain ⟨b, f, sd, ch, x, rfl, g0, g1, g2, hb, e1, e2, e3⟩ := (HA.out.kept T).get j hjm
      obtain ⟨g0w, g1w, g2w⟩ : w.cell? ⟨b, f + j * 3, none⟩ = some (.bool sd) ∧ w.cell? ⟨b, f + j * 3 + 1, none⟩ = some (.int .i64 ch) ∧ w.cell? ⟨b, f + j * 3 + 2, none⟩ = some (.int .i64 x) := by
        obtain ⟨b', f', sd', ch', x', hab, g0', g1', g2', hb', e1', _⟩ := HA.out.get j hjm
        cases hab
        rw [e1] at e1'
        cases e1'
        exact ⟨g0', g1', g2'⟩
      have hbw : b < w.heap.size := cell_lt g0w
      have b1 : (j : Int) < (m : Int) := by omega
      have b2 : (0 : Int) ≤ (j : Int) := by omega
      have c3 : wr.cell? ⟨w.heap.size + 1 + 1, 4, none⟩ = some sv := B3.cell 4 (by simp)
      have l3 := B3.lt.2
      have HT : Hid (l.take (j + 1) = l.take j ++ [⟨sd, ch, x⟩]) := e2
      have hlt : (l.take j).length ≤ 1000000 := by rw [List.length_take]; omega
      clear e1 e2 e3
      obtain ⟨g3, rfl⟩ : ∃ g, gk = g + 1 := ⟨gk - 1, by omega⟩
      have Rd := R.kept ((Kept.refl wr).drew)
      have hBd : w.heap.size ≤ wr.drew.heap.size := T.size
      have n1 : w.heap.size + 1 + 1 ≠ b := by omega
      have hmin : min j l.length = j := by rw [HL.out]; omega
      have n2 : w.heap.size + 1 + 1 ≠ w.heap.size := by omega
      go_wp2_with fail
      refine wp_region_S (by kernel_rfl) 24 (fun w' => w'.cell? ⟨w.heap.size, 4, none⟩ = some (.slice (some ⟨b, f, none⟩) m c) ∧ w'.cell? ⟨b, f + j * 3, none⟩ = some (.bool sd) ∧ w'.cell? ⟨b, f + j * 3 + 1, none⟩ = some (.int .i64 ch) ∧ w'.cell? ⟨b, f + j * 3 + 2, none⟩ = some (.int .i64 x) ∧ w'.cell? ⟨w.heap.size + 1 + 1, 4, none⟩ = some sv) ?_
      have hS0 : wr.drew.cell? ⟨w.heap.size, 4, none⟩ = some (.slice (some ⟨b, f, none⟩) m c) ∧ wr.drew.cell? ⟨b, f + j * 3, none⟩ = some (.bool sd) ∧ wr.drew.cell? ⟨b, f + j * 3 + 1, none⟩ = some (.int .i64 ch) ∧ wr.drew.cell? ⟨b, f + j * 3 + 2, none⟩ = some (.int .i64 x) ∧ wr.drew.cell? ⟨w.heap.size + 1 + 1, 4, none⟩ = some sv := ⟨c1, g0, g1, g2, c3⟩
      refine wpAnyS_take (i := 0) (v := .pointer (some ⟨w.heap.size + 1 + 1, 4, none⟩)) rfl (by kernel_rfl) (by kernel_rfl) (by kernel_rfl) (by kernel_rfl) (fun _ _ _ h => h) hS0 rfl (fun wx hx => by obtain ⟨s1, s2, s3, s4, s5⟩ := hx; go_simp) ?_
      refine wpAnyS_take (i := 1) (v := sv) rfl (by kernel_rfl) (by kernel_rfl) (by kernel_rfl) (by kernel_rfl) (fun _ _ _ h => h) hS0 rfl (fun wx hx => by obtain ⟨s1, s2, s3, s4, s5⟩ := hx; go_simp) ?_
      refine wpAnyS_take (i := 2) (v := .pointer (some ⟨w.heap.size, 4, none⟩)) rfl (by kernel_rfl) (by kernel_rfl) (by kernel_rfl) (by kernel_rfl) (fun _ _ _ h => h) hS0 rfl (fun wx hx => by obtain ⟨s1, s2, s3, s4, s5⟩ := hx; go_simp) ?_
      refine wpAnyS_take (i := 3) (v := .slice (some ⟨b, f, none⟩) m c) rfl (by kernel_rfl) (by kernel_rfl) (by kernel_rfl) (by kernel_rfl) (fun _ _ _ h => h) hS0 rfl (fun wx hx => by obtain ⟨s1, s2, s3, s4, s5⟩ := hx; go_simp) ?_
      refine wpAnyS_take (i := 4) (v := .int .i64 j) rfl (by kernel_rfl) (by kernel_rfl) (by kernel_rfl) (by kernel_rfl) (fun _ _ _ h => h) hS0 rfl (fun wx hx => by obtain ⟨s1, s2, s3, s4, s5⟩ := hx; go_simp) ?_
      refine wpAnyS_take (i := 5) (v := .pointer (some ⟨b, f + j * 3, none⟩)) rfl (by kernel_rfl) (by kernel_rfl) (by kernel_rfl) (by kernel_rfl) (fun _ _ _ h => h) hS0 rfl (fun wx hx => by obtain ⟨s1, s2, s3, s4, s5⟩ := hx; go_simp) ?_
      refine wpAnyS_take (i := 6) (v := .pointer (some ⟨b, f + j * 3, none⟩)) rfl (by kernel_rfl) (by kernel_rfl) (by kernel_rfl) (by kernel_rfl) (fun _ _ _ h => h) hS0 rfl (fun wx hx => by obtain ⟨s1, s2, s3, s4, s5⟩ := hx; go_simp) ?_
      refine wpAnyS_take (i := 7) (v := .bool sd) rfl (by kernel_rfl) (by kernel_rfl) (by kernel_rfl) (by kernel_rfl) (fun _ _ _ h => h) hS0 rfl (fun wx hx => by obtain ⟨s1, s2, s3, s4, s5⟩ := hx; go_simp) ?_
      refine wpAnyS_take (i := 8) (v := .pointer (some ⟨w.heap.size, 4, none⟩)) rfl (by kernel_rfl) (by kernel_rfl) (by kernel_rfl) (by kernel_rfl) (fun _ _ _ h => h) hS0 rfl (fun wx hx => by obtain ⟨s1, s2, s3, s4, s5⟩ := hx; go_simp) ?_
      refine wpAnyS_take (i := 9) (v := .slice (some ⟨b, f, none⟩) m c) rfl (by kernel_rfl) (by kernel_rfl) (by kernel_rfl) (by kernel_rfl) (fun _ _ _ h => h) hS0 rfl (fun wx hx => by obtain ⟨s1, s2, s3, s4, s5⟩ := hx; go_simp) ?_
      refine wpAnyS_take (i := 10) (v := .int .i64 j) rfl (by kernel_rfl) (by kernel_rfl) (by kernel_rfl) (by kernel_rfl) (fun _ _ _ h => h) hS0 rfl (fun wx hx => by obtain ⟨s1, s2, s3, s4, s5⟩ := hx; go_simp) ?_
      refine wpAnyS_take (i := 11) (v := .pointer (some ⟨b, f + j * 3, none⟩)) rfl (by kernel_rfl) (by kernel_rfl) (by kernel_rfl) (by kernel_rfl) (fun _ _ _ h => h) hS0 rfl (fun wx hx => by obtain ⟨s1, s2, s3, s4, s5⟩ := hx; go_simp) ?_
      refine wpAnyS_take (i := 12) (v := .pointer (some ⟨b, f + j * 3 + 1, none⟩)) rfl (by kernel_rfl) (by kernel_rfl) (by kernel_rfl) (by kernel_rfl) (fun _ _ _ h => h) hS0 rfl (fun wx hx => by obtain ⟨s1, s2, s3, s4, s5⟩ := hx; go_simp) ?_
      refine wpAnyS_take (i := 13) (v := .int .i64 ch) rfl (by kernel_rfl) (by kernel_rfl) (by kernel_rfl) (by kernel_rfl) (fun _ _ _ h => h) hS0 rfl (fun wx hx => by obtain ⟨s1, s2, s3, s4, s5⟩ := hx; go_simp) ?_
      refine wpAnyS_take (i := 14) (v := .pointer (some ⟨w.heap.size, 4, none⟩)) rfl (by kernel_rfl) (by kernel_rfl) (by kernel_rfl) (by kernel_rfl) (fun _ _ _ h => h) hS0 rfl (fun wx hx => by obtain ⟨s1, s2, s3, s4, s5⟩ := hx; go_simp) ?_
      refine wpAnyS_take (i := 15) (v := .slice (some ⟨b, f, none⟩) m c) rfl (by kernel_rfl) (by kernel_rfl) (by kernel_rfl) (by kernel_rfl) (fun _ _ _ h => h) hS0 rfl (fun wx hx => by obtain ⟨s1, s2, s3, s4, s5⟩ := hx; go_simp) ?_
      refine wpAnyS_take (i := 16) (v := .int .i64 j) rfl (by kernel_rfl) (by kernel_rfl) (by kernel_rfl) (by kernel_rfl) (fun _ _ _ h => h) hS0 rfl (fun wx hx => by obtain ⟨s1, s2, s3, s4, s5⟩ := hx; go_simp) ?_
      refine wpAnyS_take (i := 17) (v := .pointer (some ⟨b, f + j * 3, none⟩)) rfl (by kernel_rfl) (by kernel_rfl) (by kernel_rfl) (by kernel_rfl) (fun _ _ _ h => h) hS0 rfl (fun wx hx => by obtain ⟨s1, s2, s3, s4, s5⟩ := hx; go_simp) ?_
      refine wpAnyS_take (i := 18) (v := .pointer (some ⟨b, f + j * 3 + 2, none⟩)) rfl (by kernel_rfl) (by kernel_rfl) (by kernel_rfl) (by kernel_rfl) (fun _ _ _ h => h) hS0 rfl (fun wx hx => by obtain ⟨s1, s2, s3, s4, s5⟩ := hx; go_simp) ?_
      refine wpAnyS_take (i := 19) (v := .int .i64 x) rfl (by kernel_rfl) (by kernel_rfl) (by kernel_rfl) (by kernel_rfl) (fun _ _ _ h => h) hS0 rfl (fun wx hx => by obtain ⟨s1, s2, s3, s4, s5⟩ := hx; go_simp) ?_
      refine wpAnyS_take (i := 20) (v := .agg #[.bool sd, .int .i64 ch, .int .i64 x]) rfl (by kernel_rfl) (by kernel_rfl) (by kernel_rfl) (by kernel_rfl) (fun _ _ _ h => h) hS0 rfl (fun wx hx => by obtain ⟨s1, s2, s3, s4, s5⟩ := hx; go_simp) ?_
      refine wpAnyS_one (i := 21) rfl (by kernel_rfl) (fun K hK => ?_)
      go_simp
      have KA := ((Kept.refl wr).drew).alloc (.cells #[.bool sd, .int .i64 ch, .int .i64 x] 108)
      have hS1 := And.intro (KA.cell c1) (And.intro (KA.cell g0) (And.intro (KA.cell g1) (And.intro (KA.cell g2) (KA.cell c3))))
      refine hK _ _ (fun _ => hS1) ?_
      clear hK K
      refine wpAnyS_one (i := 22) rfl (by kernel_rfl) (fun K hK => ?_)
      refine step_append_case kR _ (by rfl) _ _ (by rfl) w.heap.size sv (l.take j) sd ch x wr.drew (by rfl) (by rfl) wr.drew.heap.size (by rfl) (by rfl) Rd hlt hBd ?_
      intro g cap w3 R3 gr3 at3
      have T3 := App3.of rfl gr3 at3 HS.out B1 B2 B3 T
      have hS2 := And.intro T3.c1 (And.intro (T3.kept.cell g0w) (And.intro (T3.kept.cell g1w) (And.intro (T3.kept.cell g2w) T3.c3)))
      refine hK _ _ (fun _ => hS2) ?_
      clear hK K
      refine wpAnyS_take (i := 23) (v := .pointer (some ⟨w.heap.size + 1 + 1, 4, none⟩)) rfl (by kernel_rfl) (by kernel_rfl) (by kernel_rfl) (by kernel_rfl) (fun _ _ _ h => h) hS2 rfl (fun wx hx => by obtain ⟨s1, s2, s3, s4, s5⟩ := hx; go_simp) ?_
      refine wpAnyS_one (i := 24) rfl (by kernel_rfl) (fun K hK => ?_)
      have z1 := T3.c3
      have z2 := T3.fr
      go_simp
      refine hK _ _ (fun h => absurd rfl h) ?_
      clear hK K
      refine wpAnyS_done (by kernel_rfl) ?_ _
      go_wp2_with fail
      go_roundg g3
      case rel =>
        have nv : Value.slice (some ⟨g, 0, none⟩) ((l.take j).length + 1) cap = .slice (some ⟨g, 0, none⟩) (j + 1) cap := by rw [List.length_take, hmin]
        have t5 := turn_set w3 (w.heap.size + 1 + 1) 4 (.slice (some ⟨g, 0, none⟩) (j + 1) cap)
        have fg := T3.far
        rw [nv, ← HT.out] at R3
        refine ⟨j + 1, .slice (some ⟨g, 0, none⟩) (j + 1) cap, by go_num, by omega, T3.b1.turns t5 (by omega), T3.b2.turns t5 (by omega), T3.b3.set 4 _, R3.turns t5 (fun q hq => by simp [Value.ownBlock] at hq; omega), (fun q hq => by simp [Value.ownBlock] at hq; omega), t5.kept T3.kept (fun i hi => by omega)⟩
      case measure => omega
    · have b1 : ¬ (j : Int) < (m : Int) := by omega
      obtain rfl : j = m := by omega
      obtain ⟨aX, cX, hX, _, _⟩ := R.at
      generalize (l.take j).length = nX at hX
      subst hX
      have d0 : wr.cell? ⟨w.heap.size + 1 + 1, 0, none⟩ = some (.int .i64 k) := B3.cell 0 (by simp)
      have d1 : wr.cell? ⟨w.heap.size + 1 + 1, 1, none⟩ = some (.int .i64 n) := B3.cell 1 (by simp)
      have d2 : wr.cell? ⟨w.heap.size + 1 + 1, 2, none⟩ = some (.int .i64 v) := B3.cell 2 (by simp)
      have d3 : wr.cell? ⟨w.heap.size + 1 + 1, 3, none⟩ = some (.int .i64 wt) := B3.cell 3 (by simp)
      have d4 : wr.cell? ⟨w.heap.size + 1 + 1, 4, none⟩ = some (.slice aX nX cX) := B3.cell 4 (by simp)
      have p0 : wr.cell? ⟨w.heap.size + 1, 0, none⟩ = some (.int .i64 0) := B2.cell 0 (by simp)
      have p1 : wr.cell? ⟨w.heap.size + 1, 1, none⟩ = some (.int .i64 0) := B2.cell 1 (by simp)
      have p2 : wr.cell? ⟨w.heap.size + 1, 2, none⟩ = some (.int .i64 0) := B2.cell 2 (by simp)
      have p3 : wr.cell? ⟨w.heap.size + 1, 3, none⟩ = some (.int .i64 0) := B2.cell 3 (by simp)
      have p4 : wr.cell? ⟨w.heap.size + 1, 4, none⟩ = some (.slice none 0 0) := B2.cell 4 (by simp)
      have f0 := B2.frozen 0
      have f1 := B2.frozen 1
      have f2 := B2.frozen 2
      have f3 := B2.frozen 3
      have f4 := B2.frozen 4
      go_wp2_with fail
      (try simp only [Exit.inBlock, Exit.then])
      have tf := turn_set5 wr (w.heap.size + 1) (.int .i64 k) (.int .i64 n) (.int .i64 v) (.int .i64 wt) (.slice aX nX cX)
      refine bodyPost_ret (v := .agg #[.int .i64 k, .int .i64 n, .int .i64 v, .int .i64 wt, .slice aX nX cX]) ?_ rfl ⟨_, rfl, ?_, tf.kept T (fun i hi => by omega)⟩
      · rw [results_cell1 rfl]
        go_simp
      · have := R.turns tf (fun q hq e => by have := HS.out q hq; omega)
        rw [List.take_of_length_le (by rw [HL.out]; omega)] at this
        exact this

end Go.Proofs.YtolljdomnohmdabGreatDoor
