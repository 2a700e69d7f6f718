/- WordJoins, walked. -/
import Derived.Test.YtfmoijmfndmgaaaDoorEndsW
import Derived.OpenShut
namespace Go.Proofs.YtfmoijmfndmgaaaDoor
open Go.RowKit

/-- A slice of texts that came in. -/
def Came (w : World) (a : Option Addr) (len cap : Nat) (zs : List ByteArray) : Prop :=
  (a = none ∧ len = 0 ∧ cap = 0 ∧ zs = []) ∨ ∃ x, a = some x ∧ len ≤ cap ∧ cap ≤ maxLen ∧ zs.length = cap ∧ ∀ i, i < zs.length → w.cell? (x.add i) = some (.string (zs.getD i ByteArray.empty))
theorem Came.at {w : World} {a : Option Addr} {len cap : Nat} {zs : List ByteArray} (h : Came w a len cap zs) : ∃ l, At w a len l := by
  rcases h with ⟨rfl, rfl, rfl, rfl⟩ | ⟨x, rfl, p1, p2, p3, p4⟩
  · exact ⟨[], At.none w⟩
  · refine ⟨(zs.take len).map (fun s => s.data.toList), by rw [List.length_map, List.length_take]; omega, fun j hj => ?_⟩
    obtain ⟨b, off, spot⟩ := x
    have hspot : spot = Option.none := by simpa [Addr.add] using World.cell?_spot (p4 0 (by omega))
    subst hspot
    refine ⟨b, off, rfl, ?_⟩
    rw [← Go.WideShapes.add_plain, p4 j (by omega)]
    have hjz : j < zs.length := by omega
    simp [List.getD_eq_getElem?_getD, hj, hjz, B_of]

/-- May all of them be words? -/
def goodB (ls : List (List UInt8)) : Bool := ls.all (fun x => within 33 126 x)
def inB (x : List UInt8) : Bool := x.all (fun c => decide (33 ≤ c.toNat) && decide (c.toNat ≤ 126))
theorem good_snoc (ls : List (List UInt8)) (x : List UInt8) : goodB (ls ++ [x]) = (goodB ls && !x.isEmpty && inB x) := by
  simp [goodB, inB, within, Bool.and_assoc]
theorem in_snoc (x : List UInt8) (c : UInt8) : inB (x ++ [c]) = (inB x && (decide (33 ≤ c.toNat) && decide (c.toNat ≤ 126))) := by
  simp [inB]
theorem split_join : ∀ (ls : List (List UInt8)), ls ≠ [] → (∀ x ∈ ls, within 33 126 x = true) → splitGo [] (joinW ls) = some ls
  | [], h, _ => absurd rfl h
  | [x], _, hg => by
    have hx := hg x (by simp)
    have h32 : (32 : UInt8) ∉ x := fun hm => by have := ((within_iff _ _ _).1 hx).2 32 hm; revert this; decide
    rw [show joinW [x] = x from rfl, split_miss x h32, hx]; rfl
  | x :: y :: r, _, hg => by
    have hx := hg x (by simp)
    have h32 : (32 : UInt8) ∉ x := fun hm => by have := ((within_iff _ _ _).1 hx).2 32 hm; revert this; decide
    have ih := split_join (y :: r) (by simp) (fun z hz => hg z (by simp at hz ⊢; exact .inr hz))
    rw [joinW_cons x (y :: r) (by simp), split_hit x _ h32, hx, ih]; rfl
theorem good_mem {ls : List (List UInt8)} (h : goodB ls = true) : ∀ x ∈ ls, within 33 126 x = true := by
  simpa [goodB, List.all_eq_true] using h
theorem splitOf_joinW (ls : List (List UInt8)) (h : goodB ls = true) : splitOf (joinW ls) = some ls := by
  cases ls with
  | nil => rfl
  | cons x r =>
    have hx := (within_iff _ _ _).1 (good_mem h x (by simp))
    unfold splitOf
    rw [if_neg ?_, split_join _ (by simp) (good_mem h)]
    cases r with
    | nil => exact hx.1
    | cons y r => rw [joinW_cons x (y :: r) (by simp)]; simp
theorem lines_joinL : ∀ (ls : List (List UInt8)), (∀ x ∈ ls, within 33 126 x = true) → linesOf (joinL ls) = ls
  | [], _ => rfl
  | x :: r, hg => by
    have hx := hg x (by simp)
    have h10 : (10 : UInt8) ∉ x := fun hm => by have := ((within_iff _ _ _).1 hx).2 10 hm; revert this; decide
    rw [joinL, linesOf_hit x _ h10, lines_joinL r (fun z hz => hg z (by simp [hz]))]
theorem joinL_ok : ∀ (ls : List (List UInt8)), linesOk (joinL ls) = true
  | [] => rfl
  | x :: r => by
    have ih := joinL_ok r
    unfold linesOk at *
    rw [Bool.or_eq_true] at *
    right
    rw [joinL]
    rcases ih with ih | ih
    · have : joinL r = [] := by simpa using ih
      rw [this]; simp
    · have h2 : (joinL r).getLast? = some 10 := by simpa using ih
      rw [List.getLast?_append, List.getLast?_cons, h2]
      rfl
theorem joinW_le : ∀ (ls : List (List UInt8)), (∀ x ∈ ls, x.length ≤ 60) → (joinW ls).length ≤ 61 * ls.length
  | [], _ => by simp [joinW]
  | [x], h => by have := h x (by simp); simp [joinW]; omega
  | x :: y :: r, h => by
    have ih := joinW_le (y :: r) (fun z hz => h z (by simp at hz ⊢; exact .inr hz))
    have := h x (by simp)
    rw [joinW_cons x (y :: r) (by simp)]
    simp at ih ⊢; omega
theorem joinL_le : ∀ (ls : List (List UInt8)), (∀ x ∈ ls, x.length ≤ 60) → (joinL ls).length ≤ 61 * ls.length
  | [], _ => by simp [joinL]
  | x :: r, h => by
    have ih := joinL_le r (fun z hz => h z (by simp [hz]))
    have := h x (by simp)
    rw [joinL]
    simp at ih ⊢; omega

set_option maxHeartbeats 400000 in
theorem joins_skip (a : Option Addr) (n cap : Nat) (h : ¬ n ≤ 30) (w : World) (hr : Rdy w) :
    Calls Tryd.prog 5 #[.slice a n cap] w fun e w' => e = .returned (.bool true) ∧ Kept w w' := by
  have t1 : decide (30 < (n : Int)) = true := decide_eq_true (by omega)
  go_enter Tryd.func5, Tryd.ntmps5
  go_wp2_with fail
  refine (known_true w hr).mono ?_
  rintro e w1 ⟨rfl, T1⟩
  go_wp2_with fail
  go_ret
  exact ⟨rfl, T1⟩

/-- What a round of the law keeps. -/
def JInv (L : List (List UInt8)) (k : Nat) (rt : Bool) : Prop := rt = goodB (L.take k) ∧ ∀ x ∈ L.take k, x.length ≤ 60

set_option maxRecDepth 10000 in
set_option maxHeartbeats 2000000 in
theorem joins_some (a : Option Addr) (n cap : Nat) (L : List (List UInt8)) (hn : n ≤ 30) (w : World) (hr : Rdy w) (hA : At w a n L) :
    Calls Tryd.prog 5 #[.slice a n cap] w fun e w' => e = .returned (.bool true) ∧ Kept w w' := by
  have t1 : decide (30 < (n : Int)) = false := decide_eq_false (by omega)
  have HA : Hid (At w a n L) := hA
  have HL : Hid (L.length = n) := hA.1
  clear hA
  go_enter Tryd.func5, Tryd.ntmps5
  go_wp2_with fail
  refine (known_true w hr).mono ?_
  rintro e w1 ⟨rfl, T1⟩
  go_wp2_with fail
  go_loopg [3, 4, 5, 6] n (fun gk o1 o2 b i wr => ∃ (k : Nat) (rt : Bool), o1 = .string (B (joinW (L.take k))) ∧ o2 = .string (B (joinL (L.take k))) ∧ b = .bool rt ∧ i = .int .i64 k ∧ k + gk = n ∧ JInv L k rt ∧ Kept w wr)
  case atStart => exact ⟨0, true, rfl, rfl, rfl, rfl, by omega, ⟨rfl, by simp⟩, T1⟩
  case round =>
    clear T1
    obtain ⟨k, rt, rfl, rfl, rfl, rfl, hk, HI, T⟩ := hrel
    by_cases hkn : k < n
    · obtain ⟨x, b, f, rfl, hcell, _, e3, e4⟩ := HA.out.get k hkn
      have gx := T.cell hcell
      have b1 : (k : Int) < (n : Int) := by omega
      have b2 : (0 : Int) ≤ (k : Int) := by omega
      have hxs := B_size x
      by_cases hx60 : 60 < x.length
      · have t2 : decide (60 < (x.length : Int)) = true := decide_eq_true (by omega)
        clear hx60
        go_wp2_with fail
        go_ret
        exact ⟨rfl, T⟩
      · have t2 : decide (60 < (x.length : Int)) = false := decide_eq_false (by omega)
        have hxl : x.length ≤ 60 := by omega
        have hw1 : (joinW (L.take k)).length ≤ 1830 := by have := joinW_le (L.take k) HI.2; rw [List.length_take] at this; omega
        have hl1 : (joinL (L.take k)).length ≤ 1830 := by have := joinL_le (L.take k) HI.2; rw [List.length_take] at this; omega
        have ad1 := add_run (joinL (L.take k)) x (by omega) (by omega)
        have ad2 := add_run (joinL (L.take k) ++ x) [10] (by simp; omega) (by simp)
        rw [show B [10] = ⟨#[10]⟩ from rfl] at ad2
        obtain ⟨em, hem⟩ : ∃ b, x.isEmpty = b := ⟨_, rfl⟩
        have hem2 : (B x).toList.isEmpty = em := by rw [B_empty]; exact hem
        have HE : Hid (x.isEmpty = em) := hem
        have HT2 : Hid (joinL (L.take (k + 1)) = joinL (L.take k) ++ (x ++ [10])) := by show _ = _; rw [e3, joinL_snoc]
        have HG : Hid (goodB (L.take (k + 1)) = (goodB (L.take k) && !x.isEmpty && inB x)) := by show _ = _; rw [e3, good_snoc]
        have HM : Hid (∀ y ∈ L.take (k + 1), y.length ≤ 60) := by
          show ∀ _, _
          rw [e3]
          intro y hy
          rcases List.mem_append.1 hy with hy | hy
          · exact HI.2 y hy
          · simp at hy; rw [hy]; exact hxl
        obtain ⟨g1, rfl⟩ : ∃ g, gk = g + 1 := ⟨gk - 1, by omega⟩
        obtain ⟨lw, hlw, hlw2, HLW⟩ : ∃ lw, (0 < k → lw = joinW (L.take k) ++ ([32] ++ x)) ∧ (k = 0 → lw = joinW (L.take k) ++ x) ∧ joinW (L.take (k + 1)) = lw := ⟨_, fun h0 => by rw [e3, joinW_snoc _ _ (take_ne h0 (by rw [HL.out]; exact hkn))]; rfl, fun h0 => by rw [e3, h0]; rfl, rfl⟩
        have HLW : Hid (joinW (L.take (k + 1)) = lw) := HLW
        clear e3 e4 hem
        by_cases hk0 : 0 < k
        · have t4 : decide (0 < (k : Int)) = true := decide_eq_true (by omega)
          have ad3 := add_run (joinW (L.take k)) [32] (by omega) (by simp)
          rw [show B [32] = ⟨#[32]⟩ from rfl] at ad3
          have ad4 : ∀ wx, (Op.stringOp .add (B (joinW (L.take k) ++ [32])) (B x)).run Tryd.prog wx = .ok (.string (B lw)) wx := by rw [hlw hk0, ← List.append_assoc]; exact add_run (joinW (L.take k) ++ [32]) x (by simp; omega) (by omega)
          clear hlw hlw2
          cases rt with
          | true =>
            go_wp2_with fail
            go_loopg [5, 7] x.length (fun g2 b i wi => ∃ (m : Nat) (rb : Bool), b = .bool rb ∧ i = .int .i64 m ∧ m + g2 = x.length ∧ Hid (rb = (!em && inB (x.take m))) ∧ Kept w wi)
            case atStart => exact ⟨0, !em, rfl, rfl, by omega, (by show _ = _; simp [inB]), T⟩
            case round =>
              clear gx T
              obtain ⟨m, rb, rfl, rfl, hm, HB, Ti⟩ := hrel
              have gx := Ti.cell hcell
              by_cases hmx : m < x.length
              · obtain ⟨c, f1, _, _, f4⟩ := byte_get (B x) m (by rw [B_size]; exact hmx)
                rw [B_list] at f4
                have HC : Hid (inB (x.take (m + 1)) = (inB (x.take m) && (decide (33 ≤ c.toNat) && decide (c.toNat ≤ 126)))) := by show _ = _; rw [f4, in_snoc]
                clear f4
                have c1 : (m : Int) < (x.length : Int) := by omega
                have c2 : (0 : Int) ≤ (m : Int) := by omega
                obtain ⟨g3, rfl⟩ : ∃ g, gk = g + 1 := ⟨gk - 1, by omega⟩
                cases rb with
                | false =>
                  go_wp2_with fail
                  go_roundg g3
                  case rel => exact ⟨m + 1, false, rfl, by go_num, by omega, (by show _ = _; rw [HC.out, ← Bool.and_assoc, ← HB.out, Bool.false_and]), Ti⟩
                  case measure => omega
                | true =>
                  by_cases h33 : 32 < c.toNat
                  · have t5 : decide (32 < (c.toNat : Int)) = true := decide_eq_true (by omega)
                    by_cases h127 : c.toNat < 127
                    · have t6 : decide ((c.toNat : Int) < 127) = true := decide_eq_true (by omega)
                      have HD : Hid ((decide (33 ≤ c.toNat) && decide (c.toNat ≤ 126)) = true) := by show _ = _; rw [decide_eq_true (by omega), decide_eq_true (by omega)]; rfl
                      clear h33 h127
                      go_wp2_with fail
                      go_roundg g3
                      case rel => exact ⟨m + 1, true, rfl, by go_num, by omega, (by show _ = _; rw [HC.out, ← Bool.and_assoc, ← HB.out, HD.out]; rfl), Ti⟩
                      case measure => omega
                    · have t6 : decide ((c.toNat : Int) < 127) = false := decide_eq_false (by omega)
                      have HD : Hid ((decide (33 ≤ c.toNat) && decide (c.toNat ≤ 126)) = false) := by show _ = _; rw [decide_eq_false (p := c.toNat ≤ 126) (by omega), Bool.and_false]
                      clear h33 h127
                      go_wp2_with fail
                      go_roundg g3
                      case rel => exact ⟨m + 1, false, rfl, by go_num, by omega, (by show _ = _; rw [HC.out, ← Bool.and_assoc, ← HB.out, HD.out]; rfl), Ti⟩
                      case measure => omega
                  · have t5 : decide (32 < (c.toNat : Int)) = false := decide_eq_false (by omega)
                    have HD : Hid ((decide (33 ≤ c.toNat) && decide (c.toNat ≤ 126)) = false) := by show _ = _; rw [decide_eq_false (p := 33 ≤ c.toNat) (by omega), Bool.false_and]
                    clear h33
                    go_wp2_with fail
                    go_roundg g3
                    case rel => exact ⟨m + 1, false, rfl, by go_num, by omega, (by show _ = _; rw [HC.out, ← Bool.and_assoc, ← HB.out, HD.out]; rfl), Ti⟩
                    case measure => omega
              · have c1 : ¬ (m : Int) < (x.length : Int) := by omega
                have HF : Hid (rb = goodB (L.take (k + 1))) := by
                  show _ = _
                  have hmm : m = x.length := by omega
                  rw [HB.out, HG.out, hmm, List.take_length, ← HI.1, HE.out]
                  simp
                go_wp2_with fail
                go_roundg g1
                case rel => exact ⟨k + 1, rb, by rw [HLW.out], by rw [HT2.out], rfl, by go_num, by omega, ⟨HF.out, HM.out⟩, Ti⟩
                case measure => omega
          | false =>
            go_wp2_with fail
            go_loopg [5, 7] x.length (fun g2 b i wi => ∃ (m : Nat) (rb : Bool), b = .bool rb ∧ i = .int .i64 m ∧ m + g2 = x.length ∧ Hid (rb = (false && inB (x.take m))) ∧ Kept w wi)
            case atStart => exact ⟨0, false, rfl, rfl, by omega, (by show _ = _; simp [inB]), T⟩
            case round =>
              clear gx T
              obtain ⟨m, rb, rfl, rfl, hm, HB, Ti⟩ := hrel
              have gx := Ti.cell hcell
              by_cases hmx : m < x.length
              · obtain ⟨c, f1, _, _, f4⟩ := byte_get (B x) m (by rw [B_size]; exact hmx)
                rw [B_list] at f4
                have HC : Hid (inB (x.take (m + 1)) = (inB (x.take m) && (decide (33 ≤ c.toNat) && decide (c.toNat ≤ 126)))) := by show _ = _; rw [f4, in_snoc]
                clear f4
                have c1 : (m : Int) < (x.length : Int) := by omega
                have c2 : (0 : Int) ≤ (m : Int) := by omega
                obtain ⟨g3, rfl⟩ : ∃ g, gk = g + 1 := ⟨gk - 1, by omega⟩
                cases rb with
                | false =>
                  go_wp2_with fail
                  go_roundg g3
                  case rel => exact ⟨m + 1, false, rfl, by go_num, by omega, (by show _ = _; rw [HC.out, ← Bool.and_assoc, ← HB.out, Bool.false_and]), Ti⟩
                  case measure => omega
                | true =>
                  by_cases h33 : 32 < c.toNat
                  · have t5 : decide (32 < (c.toNat : Int)) = true := decide_eq_true (by omega)
                    by_cases h127 : c.toNat < 127
                    · have t6 : decide ((c.toNat : Int) < 127) = true := decide_eq_true (by omega)
                      have HD : Hid ((decide (33 ≤ c.toNat) && decide (c.toNat ≤ 126)) = true) := by show _ = _; rw [decide_eq_true (by omega), decide_eq_true (by omega)]; rfl
                      clear h33 h127
                      go_wp2_with fail
                      go_roundg g3
                      case rel => exact ⟨m + 1, true, rfl, by go_num, by omega, (by show _ = _; rw [HC.out, ← Bool.and_assoc, ← HB.out, HD.out]; rfl), Ti⟩
                      case measure => omega
                    · have t6 : decide ((c.toNat : Int) < 127) = false := decide_eq_false (by omega)
                      have HD : Hid ((decide (33 ≤ c.toNat) && decide (c.toNat ≤ 126)) = false) := by show _ = _; rw [decide_eq_false (p := c.toNat ≤ 126) (by omega), Bool.and_false]
                      clear h33 h127
                      go_wp2_with fail
                      go_roundg g3
                      case rel => exact ⟨m + 1, false, rfl, by go_num, by omega, (by show _ = _; rw [HC.out, ← Bool.and_assoc, ← HB.out, HD.out]; rfl), Ti⟩
                      case measure => omega
                  · have t5 : decide (32 < (c.toNat : Int)) = false := decide_eq_false (by omega)
                    have HD : Hid ((decide (33 ≤ c.toNat) && decide (c.toNat ≤ 126)) = false) := by show _ = _; rw [decide_eq_false (p := 33 ≤ c.toNat) (by omega), Bool.false_and]
                    clear h33
                    go_wp2_with fail
                    go_roundg g3
                    case rel => exact ⟨m + 1, false, rfl, by go_num, by omega, (by show _ = _; rw [HC.out, ← Bool.and_assoc, ← HB.out, HD.out]; rfl), Ti⟩
                    case measure => omega
              · have c1 : ¬ (m : Int) < (x.length : Int) := by omega
                have HF : Hid (rb = goodB (L.take (k + 1))) := by
                  show _ = _
                  have hmm : m = x.length := by omega
                  rw [HB.out, HG.out, hmm, List.take_length, ← HI.1, HE.out]
                  simp
                go_wp2_with fail
                go_roundg g1
                case rel => exact ⟨k + 1, rb, by rw [HLW.out], by rw [HT2.out], rfl, by go_num, by omega, ⟨HF.out, HM.out⟩, Ti⟩
                case measure => omega
        · have t4 : decide (0 < (k : Int)) = false := decide_eq_false (by omega)
          have ad4 : ∀ wx, (Op.stringOp .add (B (joinW (L.take k))) (B x)).run Tryd.prog wx = .ok (.string (B lw)) wx := by
            have e9 : lw = joinW (L.take k) ++ x := by rw [hlw2 (by omega)]
            rw [e9]
            exact add_run _ _ (by omega) (by omega)
          clear hlw hlw2
          cases rt with
          | true =>
            go_wp2_with fail
            go_loopg [5, 7] x.length (fun g2 b i wi => ∃ (m : Nat) (rb : Bool), b = .bool rb ∧ i = .int .i64 m ∧ m + g2 = x.length ∧ Hid (rb = (!em && inB (x.take m))) ∧ Kept w wi)
            case atStart => exact ⟨0, !em, rfl, rfl, by omega, (by show _ = _; simp [inB]), T⟩
            case round =>
              clear gx T
              obtain ⟨m, rb, rfl, rfl, hm, HB, Ti⟩ := hrel
              have gx := Ti.cell hcell
              by_cases hmx : m < x.length
              · obtain ⟨c, f1, _, _, f4⟩ := byte_get (B x) m (by rw [B_size]; exact hmx)
                rw [B_list] at f4
                have HC : Hid (inB (x.take (m + 1)) = (inB (x.take m) && (decide (33 ≤ c.toNat) && decide (c.toNat ≤ 126)))) := by show _ = _; rw [f4, in_snoc]
                clear f4
                have c1 : (m : Int) < (x.length : Int) := by omega
                have c2 : (0 : Int) ≤ (m : Int) := by omega
                obtain ⟨g3, rfl⟩ : ∃ g, gk = g + 1 := ⟨gk - 1, by omega⟩
                cases rb with
                | false =>
                  go_wp2_with fail
                  go_roundg g3
                  case rel => exact ⟨m + 1, false, rfl, by go_num, by omega, (by show _ = _; rw [HC.out, ← Bool.and_assoc, ← HB.out, Bool.false_and]), Ti⟩
                  case measure => omega
                | true =>
                  by_cases h33 : 32 < c.toNat
                  · have t5 : decide (32 < (c.toNat : Int)) = true := decide_eq_true (by omega)
                    by_cases h127 : c.toNat < 127
                    · have t6 : decide ((c.toNat : Int) < 127) = true := decide_eq_true (by omega)
                      have HD : Hid ((decide (33 ≤ c.toNat) && decide (c.toNat ≤ 126)) = true) := by show _ = _; rw [decide_eq_true (by omega), decide_eq_true (by omega)]; rfl
                      clear h33 h127
                      go_wp2_with fail
                      go_roundg g3
                      case rel => exact ⟨m + 1, true, rfl, by go_num, by omega, (by show _ = _; rw [HC.out, ← Bool.and_assoc, ← HB.out, HD.out]; rfl), Ti⟩
                      case measure => omega
                    · have t6 : decide ((c.toNat : Int) < 127) = false := decide_eq_false (by omega)
                      have HD : Hid ((decide (33 ≤ c.toNat) && decide (c.toNat ≤ 126)) = false) := by show _ = _; rw [decide_eq_false (p := c.toNat ≤ 126) (by omega), Bool.and_false]
                      clear h33 h127
                      go_wp2_with fail
                      go_roundg g3
                      case rel => exact ⟨m + 1, false, rfl, by go_num, by omega, (by show _ = _; rw [HC.out, ← Bool.and_assoc, ← HB.out, HD.out]; rfl), Ti⟩
                      case measure => omega
                  · have t5 : decide (32 < (c.toNat : Int)) = false := decide_eq_false (by omega)
                    have HD : Hid ((decide (33 ≤ c.toNat) && decide (c.toNat ≤ 126)) = false) := by show _ = _; rw [decide_eq_false (p := 33 ≤ c.toNat) (by omega), Bool.false_and]
                    clear h33
                    go_wp2_with fail
                    go_roundg g3
                    case rel => exact ⟨m + 1, false, rfl, by go_num, by omega, (by show _ = _; rw [HC.out, ← Bool.and_assoc, ← HB.out, HD.out]; rfl), Ti⟩
                    case measure => omega
              · have c1 : ¬ (m : Int) < (x.length : Int) := by omega
                have HF : Hid (rb = goodB (L.take (k + 1))) := by
                  show _ = _
                  have hmm : m = x.length := by omega
                  rw [HB.out, HG.out, hmm, List.take_length, ← HI.1, HE.out]
                  simp
                go_wp2_with fail
                go_roundg g1
                case rel => exact ⟨k + 1, rb, by rw [HLW.out], by rw [HT2.out], rfl, by go_num, by omega, ⟨HF.out, HM.out⟩, Ti⟩
                case measure => omega
          | false =>
            go_wp2_with fail
            go_loopg [5, 7] x.length (fun g2 b i wi => ∃ (m : Nat) (rb : Bool), b = .bool rb ∧ i = .int .i64 m ∧ m + g2 = x.length ∧ Hid (rb = (false && inB (x.take m))) ∧ Kept w wi)
            case atStart => exact ⟨0, false, rfl, rfl, by omega, (by show _ = _; simp [inB]), T⟩
            case round =>
              clear gx T
              obtain ⟨m, rb, rfl, rfl, hm, HB, Ti⟩ := hrel
              have gx := Ti.cell hcell
              by_cases hmx : m < x.length
              · obtain ⟨c, f1, _, _, f4⟩ := byte_get (B x) m (by rw [B_size]; exact hmx)
                rw [B_list] at f4
                have HC : Hid (inB (x.take (m + 1)) = (inB (x.take m) && (decide (33 ≤ c.toNat) && decide (c.toNat ≤ 126)))) := by show _ = _; rw [f4, in_snoc]
                clear f4
                have c1 : (m : Int) < (x.length : Int) := by omega
                have c2 : (0 : Int) ≤ (m : Int) := by omega
                obtain ⟨g3, rfl⟩ : ∃ g, gk = g + 1 := ⟨gk - 1, by omega⟩
                cases rb with
                | false =>
                  go_wp2_with fail
                  go_roundg g3
                  case rel => exact ⟨m + 1, false, rfl, by go_num, by omega, (by show _ = _; rw [HC.out, ← Bool.and_assoc, ← HB.out, Bool.false_and]), Ti⟩
                  case measure => omega
                | true =>
                  by_cases h33 : 32 < c.toNat
                  · have t5 : decide (32 < (c.toNat : Int)) = true := decide_eq_true (by omega)
                    by_cases h127 : c.toNat < 127
                    · have t6 : decide ((c.toNat : Int) < 127) = true := decide_eq_true (by omega)
                      have HD : Hid ((decide (33 ≤ c.toNat) && decide (c.toNat ≤ 126)) = true) := by show _ = _; rw [decide_eq_true (by omega), decide_eq_true (by omega)]; rfl
                      clear h33 h127
                      go_wp2_with fail
                      go_roundg g3
                      case rel => exact ⟨m + 1, true, rfl, by go_num, by omega, (by show _ = _; rw [HC.out, ← Bool.and_assoc, ← HB.out, HD.out]; rfl), Ti⟩
                      case measure => omega
                    · have t6 : decide ((c.toNat : Int) < 127) = false := decide_eq_false (by omega)
                      have HD : Hid ((decide (33 ≤ c.toNat) && decide (c.toNat ≤ 126)) = false) := by show _ = _; rw [decide_eq_false (p := c.toNat ≤ 126) (by omega), Bool.and_false]
                      clear h33 h127
                      go_wp2_with fail
                      go_roundg g3
                      case rel => exact ⟨m + 1, false, rfl, by go_num, by omega, (by show _ = _; rw [HC.out, ← Bool.and_assoc, ← HB.out, HD.out]; rfl), Ti⟩
                      case measure => omega
                  · have t5 : decide (32 < (c.toNat : Int)) = false := decide_eq_false (by omega)
                    have HD : Hid ((decide (33 ≤ c.toNat) && decide (c.toNat ≤ 126)) = false) := by show _ = _; rw [decide_eq_false (p := 33 ≤ c.toNat) (by omega), Bool.false_and]
                    clear h33
                    go_wp2_with fail
                    go_roundg g3
                    case rel => exact ⟨m + 1, false, rfl, by go_num, by omega, (by show _ = _; rw [HC.out, ← Bool.and_assoc, ← HB.out, HD.out]; rfl), Ti⟩
                    case measure => omega
              · have c1 : ¬ (m : Int) < (x.length : Int) := by omega
                have HF : Hid (rb = goodB (L.take (k + 1))) := by
                  show _ = _
                  have hmm : m = x.length := by omega
                  rw [HB.out, HG.out, hmm, List.take_length, ← HI.1, HE.out]
                  simp
                go_wp2_with fail
                go_roundg g1
                case rel => exact ⟨k + 1, rb, by rw [HLW.out], by rw [HT2.out], rfl, by go_num, by omega, ⟨HF.out, HM.out⟩, Ti⟩
                case measure => omega
    · have b1 : ¬ (k : Int) < (n : Int) := by omega
      have hkn2 : L.take k = L := List.take_of_length_le (by rw [HL.out]; omega)
      rw [hkn2]
      have HI2 := HI
      unfold JInv at HI2
      rw [hkn2] at HI2
      have hww := joinW_le L HI2.2
      have hll := joinL_le L HI2.2
      rw [HL.out] at hww hll
      have HG : Hid (rt = goodB L) := HI2.1
      have HAk := HA.out.kept T
      have HK : Hid (At wr a n L) := HAk
      clear hkn2 HI HI2 HAk
      cases rt with
      | false =>
        go_wp2_with fail
        go_ret
        exact ⟨rfl, T⟩
      | true =>
        have hsp := split_any (joinW L) (by omega)
        rw [splitOf_joinW L HG.out.symm, show splitE (some L) = 0 from rfl, show splitR (some L) = L from rfl] at hsp
        have hli := lines_any (joinL L) (by omega)
        rw [show linesE (joinL L) = 0 from by simp [linesE, joinL_ok], show linesR (joinL L) = L from by simp [linesR, joinL_ok, lines_joinL L (good_mem HG.out.symm)]] at hli
        clear HG HA
        go_wp2_with fail
        refine (hsp wr (hr.kept T)).mono ?_
        rintro e w3 ⟨v3, rfl, r3, k3⟩
        have T3 := T.trans k3
        obtain ⟨a3, c3, rfl, p3⟩ := r3.at
        clear r3 hsp
        go_wp2_with fail
        refine (hli w3 (hr.kept T3)).mono ?_
        rintro e w4 ⟨v4, rfl, r4, k4⟩
        have T4 := T3.trans k4
        obtain ⟨a4, c4, rfl, p4⟩ := r4.at
        have p3 := p3.kept k4
        have p0 := HK.out.kept (k3.trans k4)
        clear r4 hli k3 k4
        go_wp2_with fail
        refine (words_yes p3 p0 (by rw [HL.out]; omega)).mono ?_
        rintro e w5 ⟨rfl, k5⟩
        have T5 := T4.trans k5
        have p4 := p4.kept k5
        have p0 := p0.kept k5
        go_wp2_with fail
        refine (words_yes p4 p0 (by rw [HL.out]; omega)).mono ?_
        rintro e w6 ⟨rfl, k6⟩
        go_wp2_with fail
        go_ret
        exact ⟨rfl, T5.trans k6⟩

theorem joins_any (a : Option Addr) (n cap : Nat) (zs : List ByteArray) (w : World) (h : Came w a n cap zs) (hr : Rdy w) :
    Calls Tryd.prog 5 #[.slice a n cap] w fun e w' => e = .returned (.bool true) ∧ Kept w w' := by
  obtain ⟨L, hA⟩ := h.at
  by_cases hn : n ≤ 30
  · exact joins_some a n cap L hn w hr hA
  · exact joins_skip a n cap hn w hr
end Go.Proofs.YtfmoijmfndmgaaaDoor
