/- Words of the law's package, Lines and Split of the program, by their contracts. -/
import Derived.Test.YtolljdomnohmdabGreatDoorM2
import Derived.Test.YtolljdomnohmdabGreatDoorRWrd
namespace Go.Proofs.YtolljdomnohmdabGreatDoor
open Go.RowKit

theorem suffix_one (c : UInt8) (l : List UInt8) : ([c] : List UInt8).isSuffixOf l = (l.getLast? == some c) := by
  have h1 : ([c] : List UInt8).isSuffixOf l = true ↔ (l.getLast? == some c) = true := by
    rw [List.isSuffixOf_iff_suffix]
    constructor
    · rintro ⟨a, rfl⟩
      simp
    · intro h
      simp at h
      obtain ⟨a, rfl⟩ := List.getLast?_eq_some_iff.1 h
      exact ⟨a, rfl⟩
  cases h2 : ([c] : List UInt8).isSuffixOf l <;> cases h3 : (l.getLast? == some c) <;> simp_all

/-- The error of Lines; what it tells. -/
def linesE (l : List UInt8) : Int := if linesOk l then 0 else 2
def linesR (l : List UInt8) : List (List UInt8) := if linesOk l then linesOf l else []

theorem suffix_any (l : List UInt8) (hl : l.length ≤ 100000) (w : World) :
    Calls Tryz.prog 26 #[.string (B l), .string ⟨#[10]⟩] w fun e w' => e = .returned (.bool (l.getLast? == some 10)) ∧ w' = w := by
  have := Tryz.strings_HasSuffix (B l) ⟨#[10]⟩ w (by rw [B_size]; omega)
  rw [B_list, show (⟨#[10]⟩ : ByteArray).data.toList = [10] from rfl, Lib.hasSuffix, suffix_one] at this
  exact this

set_option maxHeartbeats 1000000 in
theorem lines_any (l : List UInt8) (hl : l.length ≤ 100000) (w : World) (hr : Rdy w) :
    Calls Tryz.prog 12 #[.string (B l)] w fun e w' => ∃ v, e = .returned (.tuple #[v, .int .i64 (linesE l)]) ∧ StrRow w.heap.size w' v (linesR l) ∧ Kept w w' := by
  by_cases hok : linesOk l = true
  · have HE : Hid (linesE l = 0 ∧ linesR l = linesOf l) := by show _ ∧ _; simp [linesE, linesR, hok]
    by_cases hem : l.isEmpty = true
    · have h1 : (B l).toList.isEmpty = true := by rw [B_empty]; exact hem
      clear hok hem
      go_enter Tryz.func12, Tryz.ntmps12
      go_wp2_with fail
      go_step3
      go_wp2_with fail
      go_step3
      go_wp2_with fail
      clear h1
      go_loopw [0, 4] (fun t v wr => ∃ r done, t = .string (B r) ∧ r.length ≤ l.length ∧ Hid (done ++ linesOf r = linesOf l ∧ done.length + r.length ≤ l.length) ∧ StrRow w.heap.size wr v done ∧ Kept w wr) (fun t _ _ => strLen t)
      case atStart => exact ⟨l, [], rfl, Nat.le_refl _, ⟨rfl, by simp⟩, StrRow.nil _ _, Kept.refl _⟩
      case round =>
        obtain ⟨r, done, rfl, hrl, HR, hv, T⟩ := hrel
        have hsz := T.size
        rcases cut_one 10 r with ⟨a, b, e1, e2, _⟩ | ⟨e1, _⟩
        · subst e1
          have HL : Hid (linesOf (a ++ 10 :: b) = a :: linesOf b) := linesOf_hit a b e2
          have hab : a.length + b.length + 1 ≤ 100000 := by simp at hrl; omega
          have hcut := cut_hit 10 a b e2 wr (hr.kept T) (by simp; omega)
          have HA : Hid (a.length + 1 + b.length = (a ++ 10 :: b).length) := by show _ = _; simp; omega
          have hdl : done.length ≤ 1000000 := by have := HR.out.2; omega
          clear e2
          go_wp2_with fail
          refine hcut.mono ?_
          rintro e w1 ⟨rfl, n1, hw⟩
          subst hw
          clear hcut
          go_wp2_with fail
          have T1 := T.drewN n1
          refine (clone_any (B a) (by rw [B_size]; omega) _).mono ?_
          rintro e w2 ⟨rfl, k2⟩
          have v2 : StrRow w.heap.size w2 u4 done := StrRow.kept (w := wr.drewN n1) hv k2
          have T2 := T1.trans k2
          have hB2 : w.heap.size ≤ w2.heap.size := T2.size
          go_wp2_with (at_builtin; refine wpList_append_str _ (by rfl) _ _ rfl w.heap.size u4 done a (B a) rfl w2 rfl (by rfl) w2.heap.size rfl (by rfl) v2 hdl hB2 ?_; intro g3 c3 w3 i3 t3)
          go_roundw
          case rel =>
            refine ⟨b, done ++ [a], rfl, by simp at hrl; omega, ⟨?_, ?_⟩, ?_, Below.trans T2 t3⟩
            · rw [← HR.out.1, HL.out]; simp
            · have := HR.out.2; have := HA.out; simp; omega
            · exact i3
          case measure =>
            have := HA.out
            simp [strLen, B_size]
            omega
        · have HL : Hid (linesOf r = []) := linesOf_miss r e1
          have hcut := cut_miss 10 r e1 wr (hr.kept T) (by omega)
          clear e1
          go_wp2_with fail
          refine hcut.mono ?_
          rintro e w1 ⟨rfl, n1, hw⟩
          subst hw
          clear hcut
          go_wp2
          rw [Exit.noGoto_ret]
          go_ret2
          have h1 := HR.out.1
          rw [HL.out, List.append_nil] at h1
          rw [HE.out.1, HE.out.2, ← h1]
          exact ⟨_, rfl, hv, T.drewN n1⟩
    · have h1 : (B l).toList.isEmpty = false := by rw [B_empty]; simpa using hem
      have hsf : (l.getLast? == some 10) = true := by simpa [linesOk, hem] using hok
      have hss := suffix_any l hl w
      rw [hsf] at hss
      clear hsf hok hem
      go_enter Tryz.func12, Tryz.ntmps12
      go_wp2_with fail
      go_step3
      go_wp2_with fail
      refine hss.mono ?_
      rintro e w1 ⟨rfl, hw⟩
      subst w1
      go_wp2_with fail
      go_step3
      go_wp2_with fail
      clear h1 hss
      go_loopw [0, 4] (fun t v wr => ∃ r done, t = .string (B r) ∧ r.length ≤ l.length ∧ Hid (done ++ linesOf r = linesOf l ∧ done.length + r.length ≤ l.length) ∧ StrRow w.heap.size wr v done ∧ Kept w wr) (fun t _ _ => strLen t)
      case atStart => exact ⟨l, [], rfl, Nat.le_refl _, ⟨rfl, by simp⟩, StrRow.nil _ _, Kept.refl _⟩
      case round =>
        obtain ⟨r, done, rfl, hrl, HR, hv, T⟩ := hrel
        have hsz := T.size
        rcases cut_one 10 r with ⟨a, b, e1, e2, _⟩ | ⟨e1, _⟩
        · subst e1
          have HL : Hid (linesOf (a ++ 10 :: b) = a :: linesOf b) := linesOf_hit a b e2
          have hab : a.length + b.length + 1 ≤ 100000 := by simp at hrl; omega
          have hcut := cut_hit 10 a b e2 wr (hr.kept T) (by simp; omega)
          have HA : Hid (a.length + 1 + b.length = (a ++ 10 :: b).length) := by show _ = _; simp; omega
          have hdl : done.length ≤ 1000000 := by have := HR.out.2; omega
          clear e2
          go_wp2_with fail
          refine hcut.mono ?_
          rintro e w1 ⟨rfl, n1, hw⟩
          subst hw
          clear hcut
          go_wp2_with fail
          have T1 := T.drewN n1
          refine (clone_any (B a) (by rw [B_size]; omega) _).mono ?_
          rintro e w2 ⟨rfl, k2⟩
          have v2 : StrRow w.heap.size w2 u4 done := StrRow.kept (w := wr.drewN n1) hv k2
          have T2 := T1.trans k2
          have hB2 : w.heap.size ≤ w2.heap.size := T2.size
          go_wp2_with (at_builtin; refine wpList_append_str _ (by rfl) _ _ rfl w.heap.size u4 done a (B a) rfl w2 rfl (by rfl) w2.heap.size rfl (by rfl) v2 hdl hB2 ?_; intro g3 c3 w3 i3 t3)
          go_roundw
          case rel =>
            refine ⟨b, done ++ [a], rfl, by simp at hrl; omega, ⟨?_, ?_⟩, ?_, Below.trans T2 t3⟩
            · rw [← HR.out.1, HL.out]; simp
            · have := HR.out.2; have := HA.out; simp; omega
            · exact i3
          case measure =>
            have := HA.out
            simp [strLen, B_size]
            omega
        · have HL : Hid (linesOf r = []) := linesOf_miss r e1
          have hcut := cut_miss 10 r e1 wr (hr.kept T) (by omega)
          clear e1
          go_wp2_with fail
          refine hcut.mono ?_
          rintro e w1 ⟨rfl, n1, hw⟩
          subst hw
          clear hcut
          go_wp2
          rw [Exit.noGoto_ret]
          go_ret2
          have h1 := HR.out.1
          rw [HL.out, List.append_nil] at h1
          rw [HE.out.1, HE.out.2, ← h1]
          exact ⟨_, rfl, hv, T.drewN n1⟩
  · have HE : Hid (linesE l = 2 ∧ linesR l = []) := by show _ ∧ _; simp [linesE, linesR, hok]
    have hem : l.isEmpty = false := by simp [linesOk] at hok; simpa using hok.1
    have h1 : (B l).toList.isEmpty = false := by rw [B_empty]; exact hem
    have hsf : (l.getLast? == some 10) = false := by simp [linesOk] at hok; simpa using hok.2
    have hss := suffix_any l hl w
    rw [hsf] at hss
    clear hsf hok hem
    go_enter Tryz.func12, Tryz.ntmps12
    go_wp2_with fail
    go_step3
    go_wp2_with fail
    refine hss.mono ?_
    rintro e w1 ⟨rfl, hw⟩
    subst w1
    go_wp2
    rw [Exit.noGoto_ret]
    go_ret2
    rw [HE.out.1, HE.out.2]
    exact ⟨_, rfl, StrRow.nil _ _, Kept.refl _⟩
end Go.Proofs.YtolljdomnohmdabGreatDoor
namespace Go.Proofs.YtolljdomnohmdabGreatDoor
open Go.RowKit

theorem suffix_any2 (l : List UInt8) (hl : l.length ≤ 1000000) (w : World) :
    Calls Tryz.prog 26 #[.string (B l), .string ⟨#[10]⟩] w fun e w' => e = .returned (.bool (l.getLast? == some 10)) ∧ w' = w := by
  have := Tryz.strings_HasSuffix (B l) ⟨#[10]⟩ w (by rw [B_size]; omega)
  rw [B_list, show (⟨#[10]⟩ : ByteArray).data.toList = [10] from rfl, Lib.hasSuffix, suffix_one] at this
  exact this

set_option maxHeartbeats 1000000 in
theorem lines_any2 (l : List UInt8) (hl : l.length ≤ 1000000) (w : World) (hr : Rdy w) :
    Calls Tryz.prog 12 #[.string (B l)] w fun e w' => ∃ v, e = .returned (.tuple #[v, .int .i64 (linesE l)]) ∧ StrRow w.heap.size w' v (linesR l) ∧ Kept w w' := by
  by_cases hok : linesOk l = true
  · have HE : Hid (linesE l = 0 ∧ linesR l = linesOf l) := by show _ ∧ _; simp [linesE, linesR, hok]
    by_cases hem : l.isEmpty = true
    · have h1 : (B l).toList.isEmpty = true := by rw [B_empty]; exact hem
      clear hok hem
      go_enter Tryz.func12, Tryz.ntmps12
      go_wp2_with fail
      go_step3
      go_wp2_with fail
      go_step3
      go_wp2_with fail
      clear h1
      go_loopw [0, 4] (fun t v wr => ∃ r done, t = .string (B r) ∧ r.length ≤ l.length ∧ Hid (done ++ linesOf r = linesOf l ∧ done.length + r.length ≤ l.length) ∧ StrRow w.heap.size wr v done ∧ Kept w wr) (fun t _ _ => strLen t)
      case atStart => exact ⟨l, [], rfl, Nat.le_refl _, ⟨rfl, by simp⟩, StrRow.nil _ _, Kept.refl _⟩
      case round =>
        obtain ⟨r, done, rfl, hrl, HR, hv, T⟩ := hrel
        have hsz := T.size
        rcases cut_one 10 r with ⟨a, b, e1, e2, _⟩ | ⟨e1, _⟩
        · subst e1
          have HL : Hid (linesOf (a ++ 10 :: b) = a :: linesOf b) := linesOf_hit a b e2
          have hab : a.length + b.length + 1 ≤ 1000000 := by simp at hrl; omega
          have hcut := cut_hit 10 a b e2 wr (hr.kept T) (by simp; omega)
          have HA : Hid (a.length + 1 + b.length = (a ++ 10 :: b).length) := by show _ = _; simp; omega
          have hdl : done.length ≤ 1000000 := by have := HR.out.2; omega
          clear e2
          go_wp2_with fail
          refine hcut.mono ?_
          rintro e w1 ⟨rfl, n1, hw⟩
          subst hw
          clear hcut
          go_wp2_with fail
          have T1 := T.drewN n1
          refine (clone_any (B a) (by rw [B_size]; omega) _).mono ?_
          rintro e w2 ⟨rfl, k2⟩
          have v2 : StrRow w.heap.size w2 u4 done := StrRow.kept (w := wr.drewN n1) hv k2
          have T2 := T1.trans k2
          have hB2 : w.heap.size ≤ w2.heap.size := T2.size
          go_wp2_with (at_builtin; refine wpList_append_str _ (by rfl) _ _ rfl w.heap.size u4 done a (B a) rfl w2 rfl (by rfl) w2.heap.size rfl (by rfl) v2 hdl hB2 ?_; intro g3 c3 w3 i3 t3)
          go_roundw
          case rel =>
            refine ⟨b, done ++ [a], rfl, by simp at hrl; omega, ⟨?_, ?_⟩, ?_, Below.trans T2 t3⟩
            · rw [← HR.out.1, HL.out]; simp
            · have := HR.out.2; have := HA.out; simp; omega
            · exact i3
          case measure =>
            have := HA.out
            simp [strLen, B_size]
            omega
        · have HL : Hid (linesOf r = []) := linesOf_miss r e1
          have hcut := cut_miss 10 r e1 wr (hr.kept T) (by omega)
          clear e1
          go_wp2_with fail
          refine hcut.mono ?_
          rintro e w1 ⟨rfl, n1, hw⟩
          subst hw
          clear hcut
          go_wp2
          rw [Exit.noGoto_ret]
          go_ret2
          have h1 := HR.out.1
          rw [HL.out, List.append_nil] at h1
          rw [HE.out.1, HE.out.2, ← h1]
          exact ⟨_, rfl, hv, T.drewN n1⟩
    · have h1 : (B l).toList.isEmpty = false := by rw [B_empty]; simpa using hem
      have hsf : (l.getLast? == some 10) = true := by simpa [linesOk, hem] using hok
      have hss := suffix_any2 l hl w
      rw [hsf] at hss
      clear hsf hok hem
      go_enter Tryz.func12, Tryz.ntmps12
      go_wp2_with fail
      go_step3
      go_wp2_with fail
      refine hss.mono ?_
      rintro e w1 ⟨rfl, hw⟩
      subst w1
      go_wp2_with fail
      go_step3
      go_wp2_with fail
      clear h1 hss
      go_loopw [0, 4] (fun t v wr => ∃ r done, t = .string (B r) ∧ r.length ≤ l.length ∧ Hid (done ++ linesOf r = linesOf l ∧ done.length + r.length ≤ l.length) ∧ StrRow w.heap.size wr v done ∧ Kept w wr) (fun t _ _ => strLen t)
      case atStart => exact ⟨l, [], rfl, Nat.le_refl _, ⟨rfl, by simp⟩, StrRow.nil _ _, Kept.refl _⟩
      case round =>
        obtain ⟨r, done, rfl, hrl, HR, hv, T⟩ := hrel
        have hsz := T.size
        rcases cut_one 10 r with ⟨a, b, e1, e2, _⟩ | ⟨e1, _⟩
        · subst e1
          have HL : Hid (linesOf (a ++ 10 :: b) = a :: linesOf b) := linesOf_hit a b e2
          have hab : a.length + b.length + 1 ≤ 1000000 := by simp at hrl; omega
          have hcut := cut_hit 10 a b e2 wr (hr.kept T) (by simp; omega)
          have HA : Hid (a.length + 1 + b.length = (a ++ 10 :: b).length) := by show _ = _; simp; omega
          have hdl : done.length ≤ 1000000 := by have := HR.out.2; omega
          clear e2
          go_wp2_with fail
          refine hcut.mono ?_
          rintro e w1 ⟨rfl, n1, hw⟩
          subst hw
          clear hcut
          go_wp2_with fail
          have T1 := T.drewN n1
          refine (clone_any (B a) (by rw [B_size]; omega) _).mono ?_
          rintro e w2 ⟨rfl, k2⟩
          have v2 : StrRow w.heap.size w2 u4 done := StrRow.kept (w := wr.drewN n1) hv k2
          have T2 := T1.trans k2
          have hB2 : w.heap.size ≤ w2.heap.size := T2.size
          go_wp2_with (at_builtin; refine wpList_append_str _ (by rfl) _ _ rfl w.heap.size u4 done a (B a) rfl w2 rfl (by rfl) w2.heap.size rfl (by rfl) v2 hdl hB2 ?_; intro g3 c3 w3 i3 t3)
          go_roundw
          case rel =>
            refine ⟨b, done ++ [a], rfl, by simp at hrl; omega, ⟨?_, ?_⟩, ?_, Below.trans T2 t3⟩
            · rw [← HR.out.1, HL.out]; simp
            · have := HR.out.2; have := HA.out; simp; omega
            · exact i3
          case measure =>
            have := HA.out
            simp [strLen, B_size]
            omega
        · have HL : Hid (linesOf r = []) := linesOf_miss r e1
          have hcut := cut_miss 10 r e1 wr (hr.kept T) (by omega)
          clear e1
          go_wp2_with fail
          refine hcut.mono ?_
          rintro e w1 ⟨rfl, n1, hw⟩
          subst hw
          clear hcut
          go_wp2
          rw [Exit.noGoto_ret]
          go_ret2
          have h1 := HR.out.1
          rw [HL.out, List.append_nil] at h1
          rw [HE.out.1, HE.out.2, ← h1]
          exact ⟨_, rfl, hv, T.drewN n1⟩
  · have HE : Hid (linesE l = 2 ∧ linesR l = []) := by show _ ∧ _; simp [linesE, linesR, hok]
    have hem : l.isEmpty = false := by simp [linesOk] at hok; simpa using hok.1
    have h1 : (B l).toList.isEmpty = false := by rw [B_empty]; exact hem
    have hsf : (l.getLast? == some 10) = false := by simp [linesOk] at hok; simpa using hok.2
    have hss := suffix_any2 l hl w
    rw [hsf] at hss
    clear hsf hok hem
    go_enter Tryz.func12, Tryz.ntmps12
    go_wp2_with fail
    go_step3
    go_wp2_with fail
    refine hss.mono ?_
    rintro e w1 ⟨rfl, hw⟩
    subst w1
    go_wp2
    rw [Exit.noGoto_ret]
    go_ret2
    rw [HE.out.1, HE.out.2]
    exact ⟨_, rfl, StrRow.nil _ _, Kept.refl _⟩
end Go.Proofs.YtolljdomnohmdabGreatDoor
