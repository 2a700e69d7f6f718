/- caseWords. -/
import Derived.Test.YtiiddfahpddffaaDoorTxt1
namespace Go.Proofs.YtiiddfahpddffaaDoor
open Go.RowKit

theorem caseW_len (c : CaseD) : (caseW c).length ≤ 3 := by
  unfold caseW
  split <;> simp
theorem words_len : ∀ l : List CaseD, (l.flatMap caseW).length ≤ 3 * l.length
  | [] => by simp
  | c :: r => by
    have := words_len r
    have h1 := caseW_len c
    rw [List.flatMap_cons, List.length_append, List.length_cons]
    omega
theorem words_snoc (l : List CaseD) (c : CaseD) : (l ++ [c]).flatMap caseW = l.flatMap caseW ++ caseW c := by simp
theorem StrRow.far {base : Nat} {w : World} {v : Value} {l : List (List UInt8)} (h : StrRow base w v l) : ∀ k, v.ownBlock = some k → base ≤ k := fun k hk => (World.ownsRow.lt h k hk).1

set_option maxHeartbeats 2000000 in
theorem caseWords_any (a : Option Addr) (m c : Nat) (l : List CaseD) (w : World) (hr : Rdy w) (hA : AtC w a m l) (hm : m ≤ 20) (hi : ∀ c ∈ l, in64 c.chan ∧ in64 c.v) :
    Calls Tryd.prog 28 #[.slice a m c] w fun e w' => ∃ v, e = .returned v ∧ StrRow w.heap.size w' v (l.flatMap caseW) ∧ Kept w w' := by
  have HA : Hid (AtC w a m l) := hA
  have HL : Hid (l.length = m) := hA.1
  have HI : Hid (∀ c ∈ l, in64 c.chan ∧ in64 c.v) := hi
  clear hA hi
  go_enter Tryd.func28, Tryd.ntmps28
  go_wp2_with fail
  go_loopg [3, 9] m (fun gk v i wr => ∃ k : Nat, i = .int .i64 k ∧ k + gk = m ∧ StrRow w.heap.size wr v ((l.take k).flatMap caseW) ∧ Kept w wr)
  case atStart => exact ⟨0, rfl, by omega, StrRow.nil _ _, Kept.refl _⟩
  case round =>
    obtain ⟨k, rfl, hk, R, T⟩ := hrel
    by_cases hkm : k < m
    · obtain ⟨b, f, sd, ch, x, rfl, g0, g1, g2, hb, e1, e2, e3⟩ := (HA.out.kept T).get k hkm
      have b1 : (k : Int) < (m : Int) := by omega
      have b2 : (0 : Int) ≤ (k : Int) := by omega
      have HW : Hid ((l.take (k + 1)).flatMap caseW = (l.take k).flatMap caseW ++ caseW ⟨sd, ch, x⟩) := by show _ = _; rw [e2, words_snoc]
      have H64 : Hid (in64 ch ∧ in64 x) := HI.out _ (List.mem_of_getElem? e1)
      have hlen : ((l.take k).flatMap caseW).length ≤ 1000 := by
        have := words_len (l.take k)
        rw [List.length_take] at this
        omega
      clear e1 e2 e3
      obtain ⟨g3, rfl⟩ : ∃ g, gk = g + 1 := ⟨gk - 1, by omega⟩
      generalize (l.take k).flatMap caseW = done at *
      have T1 := T.alloc (.cells #[.bool sd, .int .i64 ch, .int .i64 x] 46)
      have GS : Hid ((wr.alloc (.cells #[.bool sd, .int .i64 ch, .int .i64 x] 46)).cell? ⟨wr.heap.size, 0, none⟩ = some (.bool sd)) := by show _ = _; rw [World.cell?_alloc_at _ _ _ _ rfl]; rfl
      have GV : Hid ((wr.alloc (.cells #[.bool sd, .int .i64 ch, .int .i64 x] 46)).cell? ⟨wr.heap.size, 2, none⟩ = some (.int .i64 x)) := by show _ = _; rw [World.cell?_alloc_at _ _ _ _ rfl]; rfl
      go_wp2_with fail
      refine (text_any ch H64.out.1.1 H64.out.1.2 _ (hr.kept T1)).mono ?_
      rintro e w1 ⟨rfl, t1⟩
      have hs := t1.cell GS.out
      have hv := t1.cell GV.out
      have hlt := cell_lt hs
      have T2 := T1.trans t1
      have R2 := (R.kept ((Kept.refl _).alloc (.cells #[.bool sd, .int .i64 ch, .int .i64 x] 46))).kept t1
      cases sd with
      | true =>
        go_wp2_with fail
        refine (text_any x H64.out.2.1 H64.out.2.2 w1 (hr.kept T2)).mono ?_
        rintro e w2 ⟨rfl, t2⟩
        have T3 := T2.trans t2
        have R3 := R2.kept t2
        have hT3 := T3.size
        go_wp2_with (at_builtin; refine wpList_append_strs _ (by rfl) _ _ rfl w.heap.size u3 done [sendW, Lib.itoa ch, Lib.itoa x] w2.heap.size 0 3 (by rfl) (by rfl) (R3.kept ((Kept.refl _).alloc _)) (lit_strs w2 [sendW, Lib.itoa ch, Lib.itoa x] _ rfl) (by simp) (by simp; omega) (le_alloc _ hT3) ?_; intro g4 c4 w4 i4 t4 f4)
        go_roundg g3
        case rel =>
          refine ⟨k + 1, by go_num, by omega, by rw [HW.out]; exact i4, t4.kept (T3.alloc _) (R3.far)⟩
        case measure => omega
      | false =>
        have hT2 := T2.size
        go_wp2_with (at_builtin; refine wpList_append_strs _ (by rfl) _ _ rfl w.heap.size u3 done [recvW, Lib.itoa ch] w1.heap.size 0 2 (by rfl) (by rfl) (R2.kept ((Kept.refl _).alloc _)) (lit_strs w1 [recvW, Lib.itoa ch] _ rfl) (by simp) (by simp; omega) (le_alloc _ hT2) ?_; intro g4 c4 w4 i4 t4 f4)
        go_roundg g3
        case rel =>
          refine ⟨k + 1, by go_num, by omega, by rw [HW.out]; exact i4, t4.kept (T2.alloc _) (R2.far)⟩
        case measure => omega
    · have b1 : ¬ (k : Int) < (m : Int) := by omega
      have hlk : l.take k = l := List.take_of_length_le (by rw [HL.out]; omega)
      rw [hlk] at R
      go_wp2_with fail
      go_ret
      exact ⟨_, rfl, R, T⟩
end Go.Proofs.YtiiddfahpddffaaDoor
