/- The reference's Lines and Split, by their contracts. -/
import Derived.Test.YtfmoijmfndmgaaaDoorSpl
namespace Go.Proofs.YtfmoijmfndmgaaaDoor
open Go.RowKit

theorem B_extract (l : List UInt8) (i j : Nat) : (B l).extract i j = B ((l.drop i).take (j - i)) := by
  rw [Lib.extract_eq, B_list]; rfl
theorem B_add (a b : List UInt8) : B a ++ B b = B (a ++ b) := by
  have h1 := B_of (B a ++ B b)
  rw [← h1]
  congr 1
theorem last_byte (l : List UInt8) (hl : l ≠ []) : ∃ c, l.getLast? = some c ∧ ∀ h, (B l)[l.length - 1]'h = c := by
  obtain ⟨a, c, rfl⟩ : ∃ a c, l = a ++ [c] := ⟨l.dropLast, l.getLast hl, (List.dropLast_concat_getLast hl).symm⟩
  refine ⟨c, by simp, fun h => ?_⟩
  obtain ⟨d, e1, e2, _, _⟩ := byte_get (B (a ++ [c])) ((a ++ [c]).length - 1) h
  rw [e1]
  rw [B_list] at e2
  simpa using e2.symm
/-- The piece of a text from i on, up to j. -/
def piece (l : List UInt8) (i j : Nat) : List UInt8 := (l.drop i).take (j - i)
theorem piece_same (l : List UInt8) (i : Nat) : piece l i i = [] := by simp [piece]
theorem piece_next {l : List UInt8} {i j : Nat} {c : UInt8} (h : l[j]? = some c) (hij : i ≤ j) : piece l i (j + 1) = piece l i j ++ [c] := by
  unfold piece
  rw [show j + 1 - i = (j - i) + 1 by omega, List.take_add_one, List.getElem?_drop, show i + (j - i) = j by omega, h]
  rfl

/-- What a round of the reference's Lines keeps. -/
def RLinInv (l : List UInt8) (done : List (List UInt8)) (f i : Nat) : Prop := f ≤ i ∧ done.length ≤ i ∧ done ++ linesGo (piece l f i) (l.drop i) = linesOf l

set_option maxHeartbeats 1000000 in
theorem rlines_bad (l : List UInt8) (hl : l.length ≤ 100000) (w : World) (hok : linesOk l = false) :
    Calls Tryd.prog 11 #[.string (B l)] w fun e w' => ∃ v, e = .returned (.tuple #[v, .int .i64 (linesE l)]) ∧ StrRow w.heap.size w' v (linesR l) ∧ Kept w w' := by
  have HE : Hid (linesE l = 2 ∧ linesR l = []) := by show _ ∧ _; simp [linesE, linesR, hok]
  have hem : l.isEmpty = false := by simp [linesOk] at hok; simpa using hok.1
  have h1 : (B l).toList.isEmpty = false := by rw [B_empty]; exact hem
  have hne : l ≠ [] := by intro e; rw [e] at hem; cases hem
  obtain ⟨c, hc1, hc2⟩ := last_byte l hne
  have hsf : ¬ c = 10 := by simp [linesOk] at hok; rw [hc1] at hok; simpa using hok.2
  have hpos : 0 < l.length := List.length_pos_iff.2 hne
  have hsz := B_size l
  obtain ⟨n, hn⟩ : ∃ n, l.length = n + 1 := ⟨l.length - 1, by omega⟩
  rw [hn] at hsz hl
  have hc3 : ∀ h, (B l)[n]'h = c := by
    intro h
    have := hc2 (by rw [B_size]; omega)
    simpa [hn] using this
  have hcn : (c.toNat != 10) = true := by rw [bne_iff_ne]; exact fun e => hsf (UInt8.toNat_inj.1 e)
  clear hok hem hne hc2 hc1 hpos hn hsf
  go_enter Tryd.func11, Tryd.ntmps11
  go_wp2_with fail
  go_ret2
  rw [HE.out.1, HE.out.2]
  exact ⟨_, rfl, StrRow.nil _ _, Kept.refl _⟩

set_option maxHeartbeats 1000000 in
theorem rlines_none (l : List UInt8) (hl : l.length ≤ 100000) (w : World) (hem : l.isEmpty = true) :
    Calls Tryd.prog 11 #[.string (B l)] w fun e w' => ∃ v, e = .returned (.tuple #[v, .int .i64 (linesE l)]) ∧ StrRow w.heap.size w' v (linesR l) ∧ Kept w w' := by
  have HE : Hid (linesE l = 0 ∧ linesR l = linesOf l) := by show _ ∧ _; simp [linesE, linesR, linesOk, hem]
  have h1 : (B l).toList.isEmpty = true := by rw [B_empty]; exact hem
  have hsz := B_size l
  clear hem
  go_enter Tryd.func11, Tryd.ntmps11
  go_wp2_with fail
  go_loopw [4, 5, 6] (fun v f i wr => ∃ (done : List (List UInt8)) (fn k : Nat), f = .int .i64 fn ∧ i = .int .i64 k ∧ k ≤ l.length ∧ RLinInv l done fn k ∧ StrRow w.heap.size wr v done ∧ Kept w wr) (fun _ _ i _ => l.length - (intOf i).toNat)
  case atStart => exact ⟨[], 0, 0, rfl, rfl, by omega, ⟨by omega, by simp, by rw [piece_same]; rfl⟩, StrRow.nil _ _, Kept.refl _⟩
  case round =>
    obtain ⟨done, fn, k, rfl, rfl, hk, HI, hv, T⟩ := hrel
    have hT := T.size
    by_cases hkl : k < l.length
    · have b1 : (k : Int) < (l.length : Int) := by omega
      have b2 : (0 : Int) ≤ (k : Int) := by omega
      obtain ⟨c, e1, e2, e3, _⟩ := byte_get (B l) k (by rw [B_size]; exact hkl)
      rw [B_list] at e2 e3
      have HG : Hid (l[k]? = some c ∧ l.drop k = c :: l.drop (k + 1)) := ⟨e2, e3⟩
      clear e2 e3
      have hfk := HI.1
      have b3 : (fn : Int) ≤ (k : Int) := by omega
      have b4 : (0 : Int) ≤ (fn : Int) := by omega
      have b5 : (k : Int) ≤ (l.length : Int) := by omega
      by_cases h10 : c = 10
      · have t1 : ((c.toNat : Int) == 10) = true := by rw [h10]; rfl
        have HC : Hid (c = 10) := h10
        clear h10
        have hdl : done.length ≤ 1000000 := by have := HI.2.1; omega
        have hB2 : w.heap.size ≤ wr.heap.size := hT
        have hpc : (B l).extract fn k = B (piece l fn k) := B_extract l fn k
        go_wp2_with (at_builtin; refine wpList_append_str _ (by rfl) _ _ rfl w.heap.size u4 done (piece l fn k) (B (piece l fn k)) rfl wr rfl (by rfl) wr.heap.size rfl (by rfl) hv hdl hB2 ?_; intro g3 c3 w3 i3 t3)
        go_roundw
        case rel =>
          refine ⟨done ++ [piece l fn k], k + 1, k + 1, by go_num, by go_num, by omega, ⟨by omega, ?_, ?_⟩, i3, Below.trans T t3⟩
          · have := HI.2.1; simp; omega
          · rw [piece_same, ← HI.2.2, HG.out.2, HC.out]
            simp [linesGo]
        case measure => simp [intOf]; omega
      · have t1 : ((c.toNat : Int) == 10) = false := by
          rw [beq_eq_false_iff_ne]
          intro e
          exact h10 (UInt8.toNat_inj.1 (by rw [show (10 : UInt8).toNat = 10 from rfl]; omega))
        have HC : Hid (¬ c = 10) := h10
        clear h10
        go_wp2_with fail
        go_roundw
        case rel =>
          refine ⟨done, fn, k + 1, rfl, by go_num, by omega, ⟨by omega, ?_, ?_⟩, hv, T⟩
          · have := HI.2.1; omega
          · rw [piece_next HG.out.1 hfk, ← HI.2.2, HG.out.2, linesGo, if_neg HC.out]
        case measure => simp [intOf]; omega
    · have b1 : ¬ (k : Int) < (l.length : Int) := by omega
      have hkk : k = l.length := by omega
      have HD : Hid (done = linesOf l) := by
        have := HI.2.2
        rw [hkk, List.drop_length, linesGo, List.append_nil] at this
        exact this
      clear hkk
      go_wp2
      go_ret2
      rw [HE.out.1, HE.out.2, ← HD.out]
      exact ⟨_, rfl, hv, T⟩

set_option maxHeartbeats 1000000 in
theorem rlines_ok (l : List UInt8) (hl : l.length ≤ 100000) (w : World) (hem : l.isEmpty = false) (hok : linesOk l = true) :
    Calls Tryd.prog 11 #[.string (B l)] w fun e w' => ∃ v, e = .returned (.tuple #[v, .int .i64 (linesE l)]) ∧ StrRow w.heap.size w' v (linesR l) ∧ Kept w w' := by
  have HE : Hid (linesE l = 0 ∧ linesR l = linesOf l) := by show _ ∧ _; simp [linesE, linesR, hok]
  have h1 : (B l).toList.isEmpty = false := by rw [B_empty]; exact hem
  have hne : l ≠ [] := by intro e; rw [e] at hem; cases hem
  obtain ⟨c, hc1, hc2⟩ := last_byte l hne
  have hsf : c = 10 := by simp [linesOk, hem] at hok; rw [hc1] at hok; simpa using hok
  have hpos : 0 < l.length := List.length_pos_iff.2 hne
  have hsz := B_size l
  have hc3 : ∀ h, (B l)[l.length - 1]'h = 10 := by rw [← hsf]; exact hc2
  have hw1 : (l.length : Int) - 1 = ((l.length - 1 : Nat) : Int) := by omega
  have hlt : ((l.length - 1 : Nat) : Int) < (l.length : Int) := by omega
  have hge : (0 : Int) ≤ ((l.length - 1 : Nat) : Int) := by omega
  clear hok hem hne hc2 hc1 hsf
  go_enter Tryd.func11, Tryd.ntmps11
  go_wp2_with fail
  clear h1 hc3 hw1 hlt hge
  go_loopw [4, 5, 6] (fun v f i wr => ∃ (done : List (List UInt8)) (fn k : Nat), f = .int .i64 fn ∧ i = .int .i64 k ∧ k ≤ l.length ∧ RLinInv l done fn k ∧ StrRow w.heap.size wr v done ∧ Kept w wr) (fun _ _ i _ => l.length - (intOf i).toNat)
  case atStart => exact ⟨[], 0, 0, rfl, rfl, by omega, ⟨by omega, by simp, by rw [piece_same]; rfl⟩, StrRow.nil _ _, Kept.refl _⟩
  case round =>
    obtain ⟨done, fn, k, rfl, rfl, hk, HI, hv, T⟩ := hrel
    have hT := T.size
    by_cases hkl : k < l.length
    · have b1 : (k : Int) < (l.length : Int) := by omega
      have b2 : (0 : Int) ≤ (k : Int) := by omega
      obtain ⟨c, e1, e2, e3, _⟩ := byte_get (B l) k (by rw [B_size]; exact hkl)
      rw [B_list] at e2 e3
      have HG : Hid (l[k]? = some c ∧ l.drop k = c :: l.drop (k + 1)) := ⟨e2, e3⟩
      clear e2 e3
      have hfk := HI.1
      have b3 : (fn : Int) ≤ (k : Int) := by omega
      have b4 : (0 : Int) ≤ (fn : Int) := by omega
      have b5 : (k : Int) ≤ (l.length : Int) := by omega
      by_cases h10 : c = 10
      · have t1 : ((c.toNat : Int) == 10) = true := by rw [h10]; rfl
        have HC : Hid (c = 10) := h10
        clear h10
        have hdl : done.length ≤ 1000000 := by have := HI.2.1; omega
        have hB2 : w.heap.size ≤ wr.heap.size := hT
        have hpc : (B l).extract fn k = B (piece l fn k) := B_extract l fn k
        go_wp2_with (at_builtin; refine wpList_append_str _ (by rfl) _ _ rfl w.heap.size u4 done (piece l fn k) (B (piece l fn k)) rfl wr rfl (by rfl) wr.heap.size rfl (by rfl) hv hdl hB2 ?_; intro g3 c3 w3 i3 t3)
        go_roundw
        case rel =>
          refine ⟨done ++ [piece l fn k], k + 1, k + 1, by go_num, by go_num, by omega, ⟨by omega, ?_, ?_⟩, i3, Below.trans T t3⟩
          · have := HI.2.1; simp; omega
          · rw [piece_same, ← HI.2.2, HG.out.2, HC.out]
            simp [linesGo]
        case measure => simp [intOf]; omega
      · have t1 : ((c.toNat : Int) == 10) = false := by
          rw [beq_eq_false_iff_ne]
          intro e
          exact h10 (UInt8.toNat_inj.1 (by rw [show (10 : UInt8).toNat = 10 from rfl]; omega))
        have HC : Hid (¬ c = 10) := h10
        clear h10
        go_wp2_with fail
        go_roundw
        case rel =>
          refine ⟨done, fn, k + 1, rfl, by go_num, by omega, ⟨by omega, ?_, ?_⟩, hv, T⟩
          · have := HI.2.1; omega
          · rw [piece_next HG.out.1 hfk, ← HI.2.2, HG.out.2, linesGo, if_neg HC.out]
        case measure => simp [intOf]; omega
    · have b1 : ¬ (k : Int) < (l.length : Int) := by omega
      have hkk : k = l.length := by omega
      have HD : Hid (done = linesOf l) := by
        have := HI.2.2
        rw [hkk, List.drop_length, linesGo, List.append_nil] at this
        exact this
      clear hkk
      go_wp2
      go_ret2
      rw [HE.out.1, HE.out.2, ← HD.out]
      exact ⟨_, rfl, hv, T⟩

theorem rlines_any (l : List UInt8) (hl : l.length ≤ 100000) (w : World) :
    Calls Tryd.prog 11 #[.string (B l)] w fun e w' => ∃ v, e = .returned (.tuple #[v, .int .i64 (linesE l)]) ∧ StrRow w.heap.size w' v (linesR l) ∧ Kept w w' := by
  cases hem : l.isEmpty with
  | true => exact rlines_none l hl w hem
  | false => cases hok : linesOk l with
    | true => exact rlines_ok l hl w hem hok
    | false => exact rlines_bad l hl w hok
end Go.Proofs.YtfmoijmfndmgaaaDoor
