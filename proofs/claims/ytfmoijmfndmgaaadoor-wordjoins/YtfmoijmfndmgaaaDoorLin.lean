/- Words of the law's package, Lines and Split of the program, by their contracts. -/
import Derived.Test.YtfmoijmfndmgaaaDoorApp
namespace Go.Proofs.YtfmoijmfndmgaaaDoor
open Go.RowKit

theorem B_empty {l : List UInt8} : (B l).toList.isEmpty = l.isEmpty := by rw [toList_of, B_list]
theorem B_eq (a b : List UInt8) : ((B a).toList == (B b).toList) = (a == b) := by rw [toList_of, toList_of, B_list, B_list]

set_option maxHeartbeats 400000 in
theorem words_len {na nb : Nat} (a b : Option Addr) (ca cb : Nat) (w : World) (h : na ≠ nb) :
    Calls Tryd.prog 16 #[.slice a na ca, .slice b nb cb] w fun e w' => e = .returned (.bool false) ∧ w' = w := by
  have t : ((na : Int) != (nb : Int)) = true := by rw [bne_iff_ne]; omega
  go_enter Tryd.func16, Tryd.ntmps16
  go_wp2
  go_ret
  exact ⟨rfl, rfl⟩

set_option maxHeartbeats 1000000 in
theorem words_same (a b : Option Addr) (n ca cb : Nat) (la lb : List (List UInt8)) (w : World) (hn : n ≤ 9223372036854775807) (ha : At w a n la) (hb : At w b n lb) :
    Calls Tryd.prog 16 #[.slice a n ca, .slice b n cb] w fun e w' => e = .returned (.bool (decide (la = lb))) ∧ ∃ q, w' = w.drewN q := by
  have HA : Hid (At w a n la) := ha
  have HB : Hid (At w b n lb) := hb
  clear ha hb
  have t : ((n : Int) != (n : Int)) = false := by simp
  go_enter Tryd.func16, Tryd.ntmps16
  go_wp2
  go_loopw [5] (fun i wr => ∃ (k q : Nat), i = .int .i64 k ∧ k ≤ n ∧ Hid (∀ j, j < k → la.getD j [] = lb.getD j []) ∧ wr = w.drewN q) (fun i _ => n - (intOf i).toNat)
  case atStart => exact ⟨0, 0, rfl, by omega, fun j hj => by omega, rfl⟩
  case round =>
    obtain ⟨k, q, rfl, hk, HE, rfl⟩ := hrel
    by_cases hkn : k < n
    · obtain ⟨x, hx⟩ : ∃ x, la.getD k [] = x := ⟨_, rfl⟩
      obtain ⟨y, hy⟩ : ∃ y, lb.getD k [] = y := ⟨_, rfl⟩
      obtain ⟨ga, fa, rfl, gx⟩ := HA.out.2 k hkn
      obtain ⟨gb, fb, rfl, gy⟩ := HB.out.2 k hkn
      rw [hx] at gx
      rw [hy] at gy
      have HXX : Hid (la.getD k [] = x) := hx
      have HYY : Hid (lb.getD k [] = y) := hy
      clear hx hy
      have b1 : (k : Int) < (n : Int) := by omega
      have b2 : (0 : Int) ≤ (k : Int) := by omega
      by_cases hxy : x = y
      · have t2 : ((B x).toList == (B y).toList) = true := by rw [B_eq]; simp [hxy]
        have HXY : Hid (x = y) := hxy
        clear hxy
        go_wp2_with fail
        go_quiet (fail)
        go_wp2_with fail
        go_roundw
        case rel =>
          refine ⟨k + 1, _, by go_num, by omega, ?_, rfl⟩
          intro j hj
          by_cases hjk : j = k
          · rw [hjk, HXX.out, HYY.out, HXY.out]
          · exact HE.out j (by omega)
        case measure => simp [intOf]; omega
      · have t2 : ((B x).toList == (B y).toList) = false := by rw [B_eq]; simp [hxy]
        have HXY : Hid (¬ x = y) := hxy
        clear hxy
        go_wp2_with fail
        go_quiet (fail)
        go_wp2_with fail
        go_ret
        refine ⟨?_, _, drewN_add _ _ _⟩
        have : decide (la = lb) = false := by
          apply decide_eq_false
          intro h
          apply HXY.out
          rw [← HXX.out, ← HYY.out, h]
        rw [this]
        rfl
    · have hkk : k = n := by omega
      have HKK : Hid (k = n) := hkk
      have b1 : ¬ (k : Int) < (n : Int) := by omega
      clear hkk hkn
      go_wp2
      go_ret
      refine ⟨?_, _, rfl⟩
      have : decide (la = lb) = true := by
        apply decide_eq_true
        apply List.ext_getElem
        · rw [HA.out.1, HB.out.1]
        · intro j h1 h2
          have := HE.out j (by rw [HKK.out, ← HA.out.1]; exact h1)
          simpa [List.getD_eq_getElem?_getD, h1, h2] using this
      rw [this]
      rfl

theorem words_any {a b : Option Addr} {na nb ca cb : Nat} {la lb : List (List UInt8)} {w : World} (ha : At w a na la) (hb : At w b nb lb) (hn : na ≤ 1000000) :
    Calls Tryd.prog 16 #[.slice a na ca, .slice b nb cb] w fun e w' => e = .returned (.bool (decide (la = lb))) ∧ Kept w w' := by
  by_cases hl : na = nb
  · subst hl
    refine (words_same a b na ca cb la lb w (by omega) ha hb).mono ?_
    rintro e w' ⟨rfl, q, rfl⟩
    exact ⟨rfl, (Kept.refl _).drewN q⟩
  · refine (words_len a b ca cb w hl).mono ?_
    rintro e w' ⟨rfl, rfl⟩
    have : decide (la = lb) = false := decide_eq_false (fun h => hl (by rw [← ha.1, ← hb.1, h]))
    exact ⟨by rw [this], Kept.refl _⟩
theorem words_yes {a b : Option Addr} {na nb ca cb : Nat} {l : List (List UInt8)} {w : World} (ha : At w a na l) (hb : At w b nb l) (hn : na ≤ 1000000) :
    Calls Tryd.prog 16 #[.slice a na ca, .slice b nb cb] w fun e w' => e = .returned (.bool true) ∧ Kept w w' := by
  refine (words_any ha hb hn).mono ?_
  rintro e w' ⟨rfl, t⟩
  exact ⟨by simp, t⟩

/-! The library's Cut at a text of one byte. -/
theorem cut_hit (c : UInt8) (a b : List UInt8) (hn : c ∉ a) (w : World) (hr : Rdy w) (hl : (a ++ c :: b).length ≤ 1000000) :
    Calls Tryd.prog 22 #[.string (B (a ++ c :: b)), .string ⟨#[c]⟩] w fun e w' => e = .returned (.tuple #[.string (B a), .string (B b), .bool true]) ∧ ∃ n, w' = w.drewN n := by
  obtain ⟨m, hm⟩ := hr.m
  have := Tryd.strings_Cut (B (a ++ c :: b)) ⟨#[c]⟩ m w (by rw [B_size]; omega) hm
  have e : Lib.cut (B (a ++ c :: b)).data.toList (⟨#[c]⟩ : ByteArray).data.toList = (a, b, true) := by
    rw [B_list]
    show Lib.cut (a ++ c :: b) [c] = _
    rcases cut_one c (a ++ c :: b) with ⟨a', b', e1, e2, e3⟩ | ⟨e1, _⟩
    · rw [e3]
      have ha : a = a' := by
        clear this hl hm e3
        induction a generalizing a' with
        | nil => cases a' with
          | nil => rfl
          | cons x y => simp at e1; rw [e1.1] at e2; simp at e2
        | cons x a ih => cases a' with
          | nil => simp at e1; rw [e1.1] at hn; simp at hn
          | cons x' a' =>
            simp at e1
            rw [e1.1, ih (fun h => hn (by simp [h])) a' (by simp [e1.2]) (fun h => e2 (by simp [h]))]
      subst ha
      have := List.append_cancel_left e1
      simp at this
      rw [this]
    · simp at e1
  rw [e] at this
  exact this
theorem cut_miss (c : UInt8) (l : List UInt8) (hn : c ∉ l) (w : World) (hr : Rdy w) (hl : l.length ≤ 1000000) :
    Calls Tryd.prog 22 #[.string (B l), .string ⟨#[c]⟩] w fun e w' => e = .returned (.tuple #[.string (B l), .string (B []), .bool false]) ∧ ∃ n, w' = w.drewN n := by
  obtain ⟨m, hm⟩ := hr.m
  have := Tryd.strings_Cut (B l) ⟨#[c]⟩ m w (by rw [B_size]; omega) hm
  have e : Lib.cut (B l).data.toList (⟨#[c]⟩ : ByteArray).data.toList = (l, [], false) := by
    rw [B_list]
    show Lib.cut l [c] = _
    rcases cut_one c l with ⟨a', b', e1, e2, e3⟩ | ⟨_, e2⟩
    · rw [e1] at hn; simp at hn
    · exact e2
  rw [e] at this
  exact this
theorem suffix_one (c : UInt8) (l : List UInt8) : ([c] : List UInt8).isSuffixOf l = (l.getLast? == some c) := by
  have h1 : ([c] : List UInt8).isSuffixOf l = true ↔ (l.getLast? == some c) = true := by
    rw [List.isSuffixOf_iff_suffix]
    constructor
    · rintro ⟨a, rfl⟩
      simp
    · intro h
      simp at h
      obtain ⟨a, rfl⟩ := List.getLast?_eq_some_iff.1 h
      exact ⟨a, rfl⟩
  cases h2 : ([c] : List UInt8).isSuffixOf l <;> cases h3 : (l.getLast? == some c) <;> simp_all

/-- A text's length, of a slot. -/
def strLen : Value → Nat
  | .string s => s.size
  | _ => 0

/-- The error of Lines; what it tells. -/
def linesE (l : List UInt8) : Int := if linesOk l then 0 else 2
def linesR (l : List UInt8) : List (List UInt8) := if linesOk l then linesOf l else []

theorem suffix_any (l : List UInt8) (hl : l.length ≤ 100000) (w : World) :
    Calls Tryd.prog 21 #[.string (B l), .string ⟨#[10]⟩] w fun e w' => e = .returned (.bool (l.getLast? == some 10)) ∧ w' = w := by
  have := Tryd.strings_HasSuffix (B l) ⟨#[10]⟩ w (by rw [B_size]; omega)
  rw [B_list, show (⟨#[10]⟩ : ByteArray).data.toList = [10] from rfl, Lib.hasSuffix, suffix_one] at this
  exact this

set_option maxHeartbeats 1000000 in
theorem lines_any (l : List UInt8) (hl : l.length ≤ 100000) (w : World) (hr : Rdy w) :
    Calls Tryd.prog 10 #[.string (B l)] w fun e w' => ∃ v, e = .returned (.tuple #[v, .int .i64 (linesE l)]) ∧ StrRow w.heap.size w' v (linesR l) ∧ Kept w w' := by
  by_cases hok : linesOk l = true
  · have HE : Hid (linesE l = 0 ∧ linesR l = linesOf l) := by show _ ∧ _; simp [linesE, linesR, hok]
    by_cases hem : l.isEmpty = true
    · have h1 : (B l).toList.isEmpty = true := by rw [B_empty]; exact hem
      clear hok hem
      go_enter Tryd.func10, Tryd.ntmps10
      go_wp2_with fail
      go_step3
      go_wp2_with fail
      go_step3
      go_wp2_with fail
      clear h1
      go_loopw [0, 4] (fun t v wr => ∃ r done, t = .string (B r) ∧ r.length ≤ l.length ∧ Hid (done ++ linesOf r = linesOf l ∧ done.length + r.length ≤ l.length) ∧ StrRow w.heap.size wr v done ∧ Kept w wr) (fun t _ _ => strLen t)
      case atStart => exact ⟨l, [], rfl, Nat.le_refl _, ⟨rfl, by simp⟩, StrRow.nil _ _, Kept.refl _⟩
      case round =>
        obtain ⟨r, done, rfl, hrl, HR, hv, T⟩ := hrel
        have hsz := T.size
        rcases cut_one 10 r with ⟨a, b, e1, e2, _⟩ | ⟨e1, _⟩
        · subst e1
          have HL : Hid (linesOf (a ++ 10 :: b) = a :: linesOf b) := linesOf_hit a b e2
          have hab : a.length + b.length + 1 ≤ 100000 := by simp at hrl; omega
          have hcut := cut_hit 10 a b e2 wr (hr.kept T) (by simp; omega)
          have HA : Hid (a.length + 1 + b.length = (a ++ 10 :: b).length) := by show _ = _; simp; omega
          have hdl : done.length ≤ 1000000 := by have := HR.out.2; omega
          clear e2
          go_wp2_with fail
          refine hcut.mono ?_
          rintro e w1 ⟨rfl, n1, hw⟩
          subst hw
          clear hcut
          go_wp2_with fail
          have T1 := T.drewN n1
          refine (clone_any (B a) (by rw [B_size]; omega) _).mono ?_
          rintro e w2 ⟨rfl, k2⟩
          have v2 : StrRow w.heap.size w2 u4 done := StrRow.kept (w := wr.drewN n1) hv k2
          have T2 := T1.trans k2
          have hB2 : w.heap.size ≤ w2.heap.size := T2.size
          go_wp2_with (at_builtin; refine wpList_append_str _ (by rfl) _ _ rfl w.heap.size u4 done a (B a) rfl w2 rfl (by rfl) w2.heap.size rfl (by rfl) v2 hdl hB2 ?_; intro g3 c3 w3 i3 t3)
          go_roundw
          case rel =>
            refine ⟨b, done ++ [a], rfl, by simp at hrl; omega, ⟨?_, ?_⟩, ?_, Below.trans T2 t3⟩
            · rw [← HR.out.1, HL.out]; simp
            · have := HR.out.2; have := HA.out; simp; omega
            · exact i3
          case measure =>
            have := HA.out
            simp [strLen, B_size]
            omega
        · have HL : Hid (linesOf r = []) := linesOf_miss r e1
          have hcut := cut_miss 10 r e1 wr (hr.kept T) (by omega)
          clear e1
          go_wp2_with fail
          refine hcut.mono ?_
          rintro e w1 ⟨rfl, n1, hw⟩
          subst hw
          clear hcut
          go_wp2
          rw [Exit.noGoto_ret]
          go_ret2
          have h1 := HR.out.1
          rw [HL.out, List.append_nil] at h1
          rw [HE.out.1, HE.out.2, ← h1]
          exact ⟨_, rfl, hv, T.drewN n1⟩
    · have h1 : (B l).toList.isEmpty = false := by rw [B_empty]; simpa using hem
      have hsf : (l.getLast? == some 10) = true := by simpa [linesOk, hem] using hok
      have hss := suffix_any l hl w
      rw [hsf] at hss
      clear hsf hok hem
      go_enter Tryd.func10, Tryd.ntmps10
      go_wp2_with fail
      go_step3
      go_wp2_with fail
      refine hss.mono ?_
      rintro e w1 ⟨rfl, hw⟩
      subst w1
      go_wp2_with fail
      go_step3
      go_wp2_with fail
      clear h1 hss
      go_loopw [0, 4] (fun t v wr => ∃ r done, t = .string (B r) ∧ r.length ≤ l.length ∧ Hid (done ++ linesOf r = linesOf l ∧ done.length + r.length ≤ l.length) ∧ StrRow w.heap.size wr v done ∧ Kept w wr) (fun t _ _ => strLen t)
      case atStart => exact ⟨l, [], rfl, Nat.le_refl _, ⟨rfl, by simp⟩, StrRow.nil _ _, Kept.refl _⟩
      case round =>
        obtain ⟨r, done, rfl, hrl, HR, hv, T⟩ := hrel
        have hsz := T.size
        rcases cut_one 10 r with ⟨a, b, e1, e2, _⟩ | ⟨e1, _⟩
        · subst e1
          have HL : Hid (linesOf (a ++ 10 :: b) = a :: linesOf b) := linesOf_hit a b e2
          have hab : a.length + b.length + 1 ≤ 100000 := by simp at hrl; omega
          have hcut := cut_hit 10 a b e2 wr (hr.kept T) (by simp; omega)
          have HA : Hid (a.length + 1 + b.length = (a ++ 10 :: b).length) := by show _ = _; simp; omega
          have hdl : done.length ≤ 1000000 := by have := HR.out.2; omega
          clear e2
          go_wp2_with fail
          refine hcut.mono ?_
          rintro e w1 ⟨rfl, n1, hw⟩
          subst hw
          clear hcut
          go_wp2_with fail
          have T1 := T.drewN n1
          refine (clone_any (B a) (by rw [B_size]; omega) _).mono ?_
          rintro e w2 ⟨rfl, k2⟩
          have v2 : StrRow w.heap.size w2 u4 done := StrRow.kept (w := wr.drewN n1) hv k2
          have T2 := T1.trans k2
          have hB2 : w.heap.size ≤ w2.heap.size := T2.size
          go_wp2_with (at_builtin; refine wpList_append_str _ (by rfl) _ _ rfl w.heap.size u4 done a (B a) rfl w2 rfl (by rfl) w2.heap.size rfl (by rfl) v2 hdl hB2 ?_; intro g3 c3 w3 i3 t3)
          go_roundw
          case rel =>
            refine ⟨b, done ++ [a], rfl, by simp at hrl; omega, ⟨?_, ?_⟩, ?_, Below.trans T2 t3⟩
            · rw [← HR.out.1, HL.out]; simp
            · have := HR.out.2; have := HA.out; simp; omega
            · exact i3
          case measure =>
            have := HA.out
            simp [strLen, B_size]
            omega
        · have HL : Hid (linesOf r = []) := linesOf_miss r e1
          have hcut := cut_miss 10 r e1 wr (hr.kept T) (by omega)
          clear e1
          go_wp2_with fail
          refine hcut.mono ?_
          rintro e w1 ⟨rfl, n1, hw⟩
          subst hw
          clear hcut
          go_wp2
          rw [Exit.noGoto_ret]
          go_ret2
          have h1 := HR.out.1
          rw [HL.out, List.append_nil] at h1
          rw [HE.out.1, HE.out.2, ← h1]
          exact ⟨_, rfl, hv, T.drewN n1⟩
  · have HE : Hid (linesE l = 2 ∧ linesR l = []) := by show _ ∧ _; simp [linesE, linesR, hok]
    have hem : l.isEmpty = false := by simp [linesOk] at hok; simpa using hok.1
    have h1 : (B l).toList.isEmpty = false := by rw [B_empty]; exact hem
    have hsf : (l.getLast? == some 10) = false := by simp [linesOk] at hok; simpa using hok.2
    have hss := suffix_any l hl w
    rw [hsf] at hss
    clear hsf hok hem
    go_enter Tryd.func10, Tryd.ntmps10
    go_wp2_with fail
    go_step3
    go_wp2_with fail
    refine hss.mono ?_
    rintro e w1 ⟨rfl, hw⟩
    subst w1
    go_wp2
    rw [Exit.noGoto_ret]
    go_ret2
    rw [HE.out.1, HE.out.2]
    exact ⟨_, rfl, StrRow.nil _ _, Kept.refl _⟩
end Go.Proofs.YtfmoijmfndmgaaaDoor
