/- caseSize, areCases, kindOf, fits. -/
import Derived.Test.YtiiddfahpddffaaDoorRdr
import Derived.Test.YtiiddfahpddffaaDoorCheck
namespace Go.Proofs.YtiiddfahpddffaaDoor
open Go.RowKit

def csz (x : List UInt8) : Int := if x = sendW then 3 else if x = recvW then 2 else 0
theorem caseSize_any (x : List UInt8) (w : World) : Calls Tryd.prog 59 #[.string (B x)] w fun e w' => e = .returned (.int .i64 (csz x)) ∧ w' = w := by
  by_cases h1 : x = sendW
  · have e1 : ((B x).toList == [115, 101, 110, 100]) = true := by rw [B_is, h1]; rfl
    have HC : Hid (csz x = 3) := by show _ = _; rw [csz, if_pos h1]
    clear h1
    go_enter Tryd.func59, Tryd.ntmps59
    go_wp2_with fail
    go_ret
    rw [HC.out]
    exact ⟨rfl, rfl⟩
  · have e1 : ((B x).toList == [115, 101, 110, 100]) = false := by rw [B_is]; simpa [sendW] using h1
    by_cases h2 : x = recvW
    · have e2 : ((B x).toList == [114, 101, 99, 118]) = true := by rw [B_is, h2]; rfl
      have HC : Hid (csz x = 2) := by show _ = _; rw [csz, if_neg h1, if_pos h2]
      clear h1 h2
      go_enter Tryd.func59, Tryd.ntmps59
      go_wp2_with fail
      go_ret
      rw [HC.out]
      exact ⟨rfl, rfl⟩
    · have e2 : ((B x).toList == [114, 101, 99, 118]) = false := by rw [B_is]; simpa [recvW] using h2
      have HC : Hid (csz x = 0) := by show _ = _; rw [csz, if_neg h1, if_neg h2]
      clear h1 h2
      go_enter Tryd.func59, Tryd.ntmps59
      go_wp2_with fail
      go_ret
      rw [HC.out]
      exact ⟨rfl, rfl⟩

theorem areB_other {x : List UInt8} {r : List (List UInt8)} (h1 : x ≠ sendW) (h2 : x ≠ recvW) : areB (x :: r) = false := by
  cases r with
  | nil => rfl
  | cons a r => rw [areB_cons, if_neg h1, if_neg h2]
theorem areB_send2 (a : List UInt8) : areB [sendW, a] = false := by rw [areB_cons, if_pos rfl]
theorem areB_send3 (a b : List UInt8) (r : List (List UInt8)) : areB (sendW :: a :: b :: r) = areB r := by rw [areB_cons, if_pos rfl]
theorem areB_recv2 (a : List UInt8) (r : List (List UInt8)) : areB (recvW :: a :: r) = areB r := by rw [areB_cons, if_neg (by decide), if_pos rfl]

/-- A slice of words. -/
def Vw (w : World) (v : Value) (ws : List (List UInt8)) : Prop := ∃ a c, v = .slice a ws.length c ∧ ws.length ≤ c ∧ At w a ws.length ws
theorem Vw.kept {w w' : World} {v : Value} {ws : List (List UInt8)} (h : Vw w v ws) (t : Kept w w') : Vw w' v ws := by
  obtain ⟨a, c, h1, h2, h3⟩ := h
  exact ⟨a, c, h1, h2, h3.kept t⟩

set_option maxHeartbeats 2000000 in
theorem areCases_any (a : Option Addr) (c : Nat) (ws : List (List UInt8)) (w : World) (hA : At w a ws.length ws) (hc : ws.length ≤ c) :
    Calls Tryd.prog 49 #[.slice a ws.length c] w fun e w' => e = .returned (.bool (areB ws)) ∧ w' = w := by
  have H0 : Hid (Vw w (.slice a ws.length c) ws) := ⟨a, c, rfl, hc, hA⟩
  clear hA hc
  go_enter Tryd.func49, Tryd.ntmps49
  go_wp2_with fail
  go_step3
  go_wp2_with fail
  go_step3
  go_wp2_with fail
  go_loopg [0, 3] ws.length (fun gk v b wr => ∃ wk : List (List UInt8), b = .bool true ∧ wk.length ≤ gk ∧ wk.length ≤ ws.length ∧ Hid (Vw w v wk) ∧ Hid (areB wk = areB ws) ∧ wr = w)
  case atStart => exact ⟨ws, rfl, Nat.le_refl _, Nat.le_refl _, H0, rfl, rfl⟩
  case round =>
    obtain ⟨wk, rfl, hg, hwl, HV, HE, hw⟩ := hrel
    subst wr
    obtain ⟨a1, c1, rfl, hc1, hat⟩ := HV.out
    cases wk with
    | nil =>
      have HR : Hid (areB ws = true) := by show _ = _; rw [← HE.out]; rfl
      clear hat HV
      go_wp2_with fail
      try rw [Exit.noGoto_ret]
      go_ret
      rw [HR.out]
      exact ⟨rfl, rfl⟩
    | cons x r =>
      obtain ⟨b, f, rfl, hx, _⟩ := hat.head
      have HA : Hid (At w (some ⟨b, f, none⟩) (x :: r).length (x :: r)) := hat
      clear hat HV
      have hcs := caseSize_any x w
      obtain ⟨g3, rfl⟩ : ∃ g, gk = g + 1 := ⟨gk - 1, by simp at hg; omega⟩
      by_cases h1 : x = sendW
      · rw [show csz x = 3 by rw [csz, if_pos h1]] at hcs
        have HX : Hid (x = sendW) := h1
        clear h1
        rcases r with _ | ⟨y, _ | ⟨z, r⟩⟩
        · have HR : Hid (areB ws = false) := by show _ = _; rw [← HE.out]; rfl
          go_wp2_with fail
          refine hcs.mono ?_
          rintro e w1 ⟨rfl, hw⟩
          subst w1
          go_wp2_with fail
          try rw [Exit.noGoto_ret]
          go_ret
          rw [HR.out]
          exact ⟨rfl, rfl⟩
        · have HR : Hid (areB ws = false) := by show _ = _; rw [← HE.out, HX.out, areB_send2]
          go_wp2_with fail
          refine hcs.mono ?_
          rintro e w1 ⟨rfl, hw⟩
          subst w1
          go_wp2_with fail
          try rw [Exit.noGoto_ret]
          go_ret
          rw [HR.out]
          exact ⟨rfl, rfl⟩
        · have HR : Hid (areB r = areB ws) := by show _ = _; rw [← HE.out, HX.out, areB_send3]
          have hd := HA.out.drop 3 (by simp)
          have HD : Hid (At w (some ⟨b, f + 3, none⟩) r.length r) := by show At _ _ _ _; simpa using hd
          clear hd
          have b1 : ¬ 3 > (r.length : Int) + 1 + 1 + 1 := by omega
          by_cases hcap : c1 = 3
          · subst hcap
            obtain rfl : r = [] := List.eq_nil_of_length_eq_zero (by simp only [List.length_cons] at hc1; omega)
            go_wp2_with fail
            refine hcs.mono ?_
            rintro e w1 ⟨rfl, hw⟩
            subst w1
            go_wp2_with fail
            go_roundg g3
            case rel => exact ⟨[], rfl, by simp, by simp, (show Vw w (.slice (some ⟨b, f, none⟩) 0 0) [] from ⟨_, _, rfl, by simp, At.zero _ _⟩), HR, rfl⟩
            case measure => omega
          · have b2 : (3 : Int) ≤ (c1 : Int) := by simp at hc1; omega
            go_wp2_with fail
            refine hcs.mono ?_
            rintro e w1 ⟨rfl, hw⟩
            subst w1
            go_wp2_with fail
            go_roundg g3
            case rel => exact ⟨r, rfl, by simp at hg; omega, by simp at hwl; omega, (show Vw w (.slice (some ⟨b, f + 3, none⟩) r.length (c1 - 3)) r from ⟨_, _, rfl, by simp at hc1; omega, HD.out⟩), HR, rfl⟩
            case measure => omega
      · by_cases h2 : x = recvW
        · rw [show csz x = 2 by rw [csz, if_neg h1, if_pos h2]] at hcs
          have HX : Hid (x = recvW) := h2
          clear h1 h2
          rcases r with _ | ⟨y, r⟩
          · have HR : Hid (areB ws = false) := by show _ = _; rw [← HE.out]; rfl
            go_wp2_with fail
            refine hcs.mono ?_
            rintro e w1 ⟨rfl, hw⟩
            subst w1
            go_wp2_with fail
            try rw [Exit.noGoto_ret]
            go_ret
            rw [HR.out]
            exact ⟨rfl, rfl⟩
          · have HR : Hid (areB r = areB ws) := by show _ = _; rw [← HE.out, HX.out, areB_recv2]
            have hd := HA.out.drop 2 (by simp)
            have HD : Hid (At w (some ⟨b, f + 2, none⟩) r.length r) := by show At _ _ _ _; simpa using hd
            clear hd
            have b1 : ¬ 2 > (r.length : Int) + 1 + 1 := by omega
            by_cases hcap : c1 = 2
            · subst hcap
              obtain rfl : r = [] := List.eq_nil_of_length_eq_zero (by simp only [List.length_cons] at hc1; omega)
              go_wp2_with fail
              refine hcs.mono ?_
              rintro e w1 ⟨rfl, hw⟩
              subst w1
              go_wp2_with fail
              go_roundg g3
              case rel => exact ⟨[], rfl, by simp, by simp, (show Vw w (.slice (some ⟨b, f, none⟩) 0 0) [] from ⟨_, _, rfl, by simp, At.zero _ _⟩), HR, rfl⟩
              case measure => omega
            · have b2 : (2 : Int) ≤ (c1 : Int) := by simp at hc1; omega
              go_wp2_with fail
              refine hcs.mono ?_
              rintro e w1 ⟨rfl, hw⟩
              subst w1
              go_wp2_with fail
              go_roundg g3
              case rel => exact ⟨r, rfl, by simp at hg; omega, by simp at hwl; omega, (show Vw w (.slice (some ⟨b, f + 2, none⟩) r.length (c1 - 2)) r from ⟨_, _, rfl, by simp at hc1; omega, HD.out⟩), HR, rfl⟩
              case measure => omega
        · rw [show csz x = 0 by rw [csz, if_neg h1, if_neg h2]] at hcs
          have HR : Hid (areB ws = false) := by show _ = _; rw [← HE.out]; exact areB_other h1 h2
          clear h1 h2
          go_wp2_with fail
          refine hcs.mono ?_
          rintro e w1 ⟨rfl, hw⟩
          subst w1
          go_wp2_with fail
          try rw [Exit.noGoto_ret]
          go_ret
          rw [HR.out]
          exact ⟨rfl, rfl⟩

theorem kindOf_at {k : Nat} (h1 : 1 ≤ k) (h9 : k ≤ 9) : kindOf (shapeOf k).word = k := by
  have : k = 1 ∨ k = 2 ∨ k = 3 ∨ k = 4 ∨ k = 5 ∨ k = 6 ∨ k = 7 ∨ k = 8 ∨ k = 9 := by omega
  rcases this with rfl | rfl | rfl | rfl | rfl | rfl | rfl | rfl | rfl <;> decide
theorem kindOf_none {x : List UInt8} (h : ∀ j, 1 ≤ j → j < 10 → (shapeOf j).word ≠ x) : kindOf x = 0 := by
  by_cases hk : kindOf x = 0
  · exact hk
  · have := kindOf_word hk
    exact absurd this.1 (h _ this.2.1 (by omega))
/-- The Kind of words. -/
def kindL (ws : List (List UInt8)) : Nat := match ws with
  | [] => 0
  | x :: _ => kindOf x

set_option maxHeartbeats 2000000 in
theorem kindOf_any (a : Option Addr) (c : Nat) (ws : List (List UInt8)) (w : World) (hr : Rdy w) (hA : At w a ws.length ws) (hl : ws.length ≤ 100000) :
    Calls Tryd.prog 31 #[.slice a ws.length c] w fun e w' => e = .returned (.int .i64 (kindL ws)) ∧ Kept w w' := by
  cases ws with
  | nil =>
    clear hA
    go_enter Tryd.func31, Tryd.ntmps31
    go_wp2_with fail
    go_step3
    go_wp2_with fail
    try rw [Exit.noGoto_ret]
    go_ret
    exact ⟨rfl, Kept.refl _⟩
  | cons x r =>
    obtain ⟨b, f, rfl, hx, _⟩ := hA.head
    have HR : Hid (Rdy w) := hr
    have hlt := hr.lt
    have HX : Hid (w.cell? ⟨b, f, none⟩ = some (.string (B x))) := hx
    clear hA hr hx
    go_enter Tryd.func31, Tryd.ntmps31
    go_wp2_with fail
    go_step3
    go_wp2_with fail
    go_step3
    go_wp2_with fail
    go_loopg [3, 4] 9 (fun gk e i wr => ∃ k : Nat, e = .int .i64 0 ∧ i = .int .i64 k ∧ 1 ≤ k ∧ k + gk = 10 ∧ Hid (∀ j, 1 ≤ j → j < k → (shapeOf j).word ≠ x) ∧ Kept w wr)
    case atStart => exact ⟨1, rfl, rfl, by omega, by omega, (fun j h1 h2 => by omega), Kept.refl _⟩
    case round =>
      obtain ⟨k, rfl, rfl, hk1, hk, HN, T⟩ := hrel
      by_cases hk9 : k ≤ 9
      · have b1 : (k : Int) ≤ 9 := by omega
        have b2 : (0 : Int) ≤ (k : Int) := by omega
        have b3 : (k : Int) < 10 := by omega
        have gx := T.cell HX.out
        have gw : wr.cell? ⟨0, k * 7, none⟩ = some (.string (B (shapeOf k).word)) := T.cell (HR.out.sh k hk9 0 _ rfl)
        obtain ⟨wd, hwd⟩ : ∃ z, (shapeOf k).word = z := ⟨_, rfl⟩
        rw [hwd] at gw
        have HW : Hid ((shapeOf k).word = wd) := hwd
        clear hwd
        by_cases he : wd = x
        · have e1 : ((B wd).toList == (B x).toList) = true := by rw [B_eq]; simpa using he
          have HK : Hid (kindOf x = k) := by show _ = _; rw [← he, ← HW.out]; exact kindOf_at hk1 hk9
          clear he
          go_wp2_with fail
          go_quiet (fail)
          go_wp2_with fail
          try rw [Exit.noGoto_ret]
          go_ret
          refine ⟨?_, T.drewN _⟩
          show _ = Ending.returned (.int .i64 ((kindOf x : Nat) : Int))
          rw [HK.out]
          rfl
        · have e1 : ((B wd).toList == (B x).toList) = false := by rw [B_eq]; simpa using he
          have HN2 : Hid (∀ j, 1 ≤ j → j < k + 1 → (shapeOf j).word ≠ x) := by
            intro j h1 h2
            by_cases hj : j = k
            · rw [hj, HW.out]; exact he
            · exact HN.out j h1 (by omega)
          clear he
          obtain ⟨g3, rfl⟩ : ∃ g, gk = g + 1 := ⟨gk - 1, by omega⟩
          go_wp2_with fail
          go_quiet (fail)
          go_wp2_with fail
          go_roundg g3
          case rel => exact ⟨k + 1, rfl, by go_num, by omega, by omega, HN2, T.drewN _⟩
          case measure => omega
      · have b1 : ¬ (k : Int) ≤ 9 := by omega
        obtain rfl : k = 10 := by omega
        have HK : Hid (kindOf x = 0) := by show _ = _; exact kindOf_none HN.out
        go_wp2_with fail
        try rw [Exit.noGoto_ret]
        go_ret
        refine ⟨?_, T⟩
        show _ = Ending.returned (.int .i64 ((kindOf x : Nat) : Int))
        rw [HK.out]
        rfl

/-- How many words there are ahead, by the first k of three flags. -/
def ahN (hn hv hw : Bool) (k : Nat) : Nat := 1 + (if 0 < k ∧ hn = true then 1 else 0) + (if 1 < k ∧ hv = true then 1 else 0) + (if 2 < k ∧ hw = true then 1 else 0)
theorem ahN_end (wd : List UInt8) (hn hv hw hp : Bool) (le mo : Int) : ahN hn hv hw 3 = aheadN ⟨wd, hn, hv, hw, hp, le, mo⟩ := by
  cases hn <;> cases hv <;> cases hw <;> rfl
theorem fits_few {s : ShapeD} {ws : List (List UInt8)} (h : ws.length < aheadN s) : fitsB s ws = false := by
  unfold fitsB
  rw [if_pos (.inl h)]
  simp; omega
theorem fits_plain {s : ShapeD} {ws : List (List UInt8)} (h : s.picks = false) : fitsB s ws = (ws.length == aheadN s) := by
  unfold fitsB
  rw [if_pos (.inr h)]
theorem fits_pick {s : ShapeD} {ws : List (List UInt8)} (h : ¬ ws.length < aheadN s) (hp : s.picks = true) : fitsB s ws = areB (ws.drop (aheadN s)) := by
  unfold fitsB
  rw [if_neg (by rw [hp]; simp; omega)]

theorem idx0 (x y z : Bool) : ∀ wx, (Instr.index 87 (.agg #[.bool x, .bool y, .bool z]) (.int .i64 0)).run Tryd.prog wx = .ok (.bool x) wx := by
  intro wx
  simp [Instr.index, go_sem]
theorem idx1 (x y z : Bool) : ∀ wx, (Instr.index 87 (.agg #[.bool x, .bool y, .bool z]) (.int .i64 1)).run Tryd.prog wx = .ok (.bool y) wx := by
  intro wx
  simp [Instr.index, go_sem]
theorem idx2 (x y z : Bool) : ∀ wx, (Instr.index 87 (.agg #[.bool x, .bool y, .bool z]) (.int .i64 2)).run Tryd.prog wx = .ok (.bool z) wx := by
  intro wx
  simp [Instr.index, go_sem]

set_option maxHeartbeats 2000000 in
set_option maxRecDepth 10000 in
theorem fits_any (wd : List UInt8) (hn hv hw hp : Bool) (le mo : Int) (a : Option Addr) (c : Nat) (ws : List (List UInt8)) (w : World) (hA : At w a ws.length ws) (hc : ws.length ≤ c) :
    Calls Tryd.prog 32 #[.agg #[.string (B wd), .bool hn, .bool hv, .bool hw, .bool hp, .int .i64 le, .int .i64 mo], .slice a ws.length c] w fun e w' => e = .returned (.bool (fitsB ⟨wd, hn, hv, hw, hp, le, mo⟩ ws)) ∧ Kept w w' := by
  have HA : Hid (At w a ws.length ws) := hA
  have GP : Hid ((w.alloc (.cells #[.string (B wd), .bool hn, .bool hv, .bool hw, .bool hp, .int .i64 le, .int .i64 mo] 53)).cell? ⟨w.heap.size, 4, none⟩ = some (.bool hp)) := by show _ = _; rw [World.cell?_alloc_at _ _ _ _ rfl]; rfl
  have K1 := (Kept.refl w).alloc (.cells #[.string (B wd), .bool hn, .bool hv, .bool hw, .bool hp, .int .i64 le, .int .i64 mo] 53)
  clear hA
  go_enter Tryd.func32, Tryd.ntmps32
  go_wp2_with fail
  go_loopg [5, 15] 3 (fun gk h i wr => ∃ k : Nat, h = .int .i64 (ahN hn hv hw k) ∧ i = .int .i64 k ∧ k + gk = 3 ∧ wr = w.alloc (.cells #[.string (B wd), .bool hn, .bool hv, .bool hw, .bool hp, .int .i64 le, .int .i64 mo] 53))
  case atStart => exact ⟨0, rfl, rfl, by omega, rfl⟩
  case round =>
    obtain ⟨k, rfl, rfl, hk, hw'⟩ := hrel
    subst wr
    have hk3 : k = 0 ∨ k = 1 ∨ k = 2 ∨ k = 3 := by omega
    rcases hk3 with rfl | rfl | rfl | rfl
    · obtain ⟨g3, rfl⟩ : ∃ g, gk = g + 1 := ⟨gk - 1, by omega⟩
      have hix := idx0 hn hv hw
      cases hn with
      | true =>
        have HT : Hid (ahN true hv hw 1 = ahN true hv hw 0 + 1) := by show _ = _; cases hv <;> cases hw <;> rfl
        have hb : ahN true hv hw 0 ≤ 4 := by cases hv <;> cases hw <;> decide
        generalize ahN true hv hw 0 = A0 at *
        go_wp2_with fail
        go_roundg g3
        case rel => exact ⟨1, by rw [HT.out]; go_num, rfl, by omega, rfl⟩
        case measure => omega
      | false =>
        have HT : Hid (ahN false hv hw 1 = ahN false hv hw 0) := by show _ = _; cases hv <;> cases hw <;> rfl
        generalize ahN false hv hw 0 = A0 at *
        go_wp2_with fail
        go_roundg g3
        case rel => exact ⟨1, by rw [HT.out], rfl, by omega, rfl⟩
        case measure => omega
    · obtain ⟨g3, rfl⟩ : ∃ g, gk = g + 1 := ⟨gk - 1, by omega⟩
      have hix := idx1 hn hv hw
      cases hv with
      | true =>
        have HT : Hid (ahN hn true hw 2 = ahN hn true hw 1 + 1) := by show _ = _; cases hn <;> cases hw <;> rfl
        have hb : ahN hn true hw 1 ≤ 4 := by cases hn <;> cases hw <;> decide
        generalize ahN hn true hw 1 = A0 at *
        go_wp2_with fail
        go_roundg g3
        case rel => exact ⟨2, by rw [HT.out]; go_num, rfl, by omega, rfl⟩
        case measure => omega
      | false =>
        have HT : Hid (ahN hn false hw 2 = ahN hn false hw 1) := by show _ = _; cases hn <;> cases hw <;> rfl
        generalize ahN hn false hw 1 = A0 at *
        go_wp2_with fail
        go_roundg g3
        case rel => exact ⟨2, by rw [HT.out], rfl, by omega, rfl⟩
        case measure => omega
    · obtain ⟨g3, rfl⟩ : ∃ g, gk = g + 1 := ⟨gk - 1, by omega⟩
      have hix := idx2 hn hv hw
      cases hw with
      | true =>
        have HT : Hid (ahN hn hv true 3 = ahN hn hv true 2 + 1) := by show _ = _; cases hn <;> cases hv <;> rfl
        have hb : ahN hn hv true 2 ≤ 4 := by cases hn <;> cases hv <;> decide
        generalize ahN hn hv true 2 = A0 at *
        go_wp2_with fail
        go_roundg g3
        case rel => exact ⟨3, by rw [HT.out]; go_num, rfl, by omega, rfl⟩
        case measure => omega
      | false =>
        have HT : Hid (ahN hn hv false 3 = ahN hn hv false 2) := by show _ = _; cases hn <;> cases hv <;> rfl
        generalize ahN hn hv false 2 = A0 at *
        go_wp2_with fail
        go_roundg g3
        case rel => exact ⟨3, by rw [HT.out], rfl, by omega, rfl⟩
        case measure => omega
    · have gp := GP.out
      have HE : Hid (ahN hn hv hw 3 = aheadN ⟨wd, hn, hv, hw, hp, le, mo⟩) := ahN_end wd hn hv hw hp le mo
      have hA4 : ahN hn hv hw 3 ≤ 4 := by cases hn <;> cases hv <;> cases hw <;> decide
      have hA1 : 1 ≤ ahN hn hv hw 3 := by cases hn <;> cases hv <;> cases hw <;> decide
      generalize ahN hn hv hw 3 = A at *
      by_cases hm : ws.length < A
      · have b1 : (ws.length : Int) < (A : Int) := by omega
        have b2 : ((ws.length : Int) == (A : Int)) = false := by rw [beq_eq_false_iff_ne]; omega
        have HR : Hid (fitsB ⟨wd, hn, hv, hw, hp, le, mo⟩ ws = false) := by show _ = _; exact fits_few (by rw [← HE.out]; exact hm)
        go_wp2_with fail
        go_ret
        rw [HR.out]
        exact ⟨rfl, K1⟩
      · have b1 : ¬ (ws.length : Int) < (A : Int) := by omega
        cases hp with
        | false =>
          have HR : Hid (fitsB ⟨wd, hn, hv, hw, false, le, mo⟩ ws = ((ws.length : Int) == (A : Int))) := by
            show _ = _
            rw [fits_plain rfl, ← HE.out, Bool.eq_iff_iff, beq_iff_eq, beq_iff_eq]
            omega
          go_wp2_with fail
          go_ret
          rw [HR.out]
          exact ⟨rfl, K1⟩
        | true =>
          have HR : Hid (fitsB ⟨wd, hn, hv, hw, true, le, mo⟩ ws = areB (ws.drop A)) := by show _ = _; rw [fits_pick (by rw [← HE.out]; exact hm) rfl, ← HE.out]
          have hb2 : (A : Int) ≤ (c : Int) := by omega
          have hb3 : (0 : Int) ≤ (A : Int) := by omega
          have hb4 : (A : Int) ≤ (ws.length : Int) := by omega
          obtain ⟨b, f, rfl, _⟩ := HA.out.2 0 (by omega)
          have hd := (HA.out.kept K1).drop A (by omega)
          have hdl : (ws.drop A).length = ws.length - A := by rw [List.length_drop]
          by_cases hcap : c = A
          · subst hcap
            have hz : ws.length - c = 0 := by omega
            have HN : Hid (ws.drop c = []) := List.eq_nil_of_length_eq_zero (by rw [hdl, hz])
            have hac := fun wx => areCases_any (some ⟨b, f, none⟩) 0 [] wx (At.zero _ _) (by simp)
            have hz2 : ws.length = c := by omega
            go_wp2_with fail
            refine (hac _).mono ?_
            rintro e w1 ⟨rfl, hw1⟩
            subst w1
            go_wp2_with fail
            go_ret
            rw [HR.out, HN.out]
            exact ⟨rfl, K1⟩
          · have hac := areCases_any (some ⟨b, f + A, none⟩) (c - A) (ws.drop A) _ (by rw [hdl]; exact hd) (by omega)
            rw [hdl] at hac
            go_wp2_with fail
            refine hac.mono ?_
            rintro e w1 ⟨rfl, hw1⟩
            subst w1
            go_wp2_with fail
            go_ret
            rw [HR.out]
            exact ⟨rfl, K1⟩
end Go.Proofs.YtiiddfahpddffaaDoor
