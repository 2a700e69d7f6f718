/- The reference's Split, by its contract. -/
import Derived.Test.YtiiddfahpddffaaDoorRLin
namespace Go.Proofs.YtiiddfahpddffaaDoor
open Go.RowKit

/-- What a round of the reference's Split keeps. -/
def RSplInv (l : List UInt8) (done : List (List UInt8)) (cur : List UInt8) (k : Nat) : Prop :=
  (k ≤ l.length → (splitGo cur (l.drop k)).map (done ++ ·) = splitGo [] l) ∧ (k = l.length + 1 → splitGo [] l = some done) ∧ done.length ≤ k ∧ cur.length ≤ k
theorem RSplInv.byte {l : List UInt8} {done : List (List UInt8)} {cur : List UInt8} {k : Nat} {c : UInt8} (h : RSplInv l done cur k) (hk : k < l.length) (hd : l.drop k = c :: l.drop (k + 1)) :
    (if c = 32 then (if cur = [] then none else (splitGo [] (l.drop (k + 1))).map (cur :: ·)) else if c.toNat < 33 ∨ 126 < c.toNat then none else splitGo (cur ++ [c]) (l.drop (k + 1))).map (done ++ ·) = splitGo [] l := by
  rw [← h.1 (by omega), hd]; rfl
theorem RSplInv.last {l : List UInt8} {done : List (List UInt8)} {cur : List UInt8} (h : RSplInv l done cur l.length) :
    (if cur = [] then none else some [cur]).map (done ++ ·) = splitGo [] l := by
  rw [← h.1 (by omega), List.drop_length]; rfl
theorem isEmpty_no {l : List UInt8} (h : ¬ l = []) : l.isEmpty = false := by cases l with
  | nil => exact absurd rfl h
  | cons a b => rfl

set_option maxHeartbeats 2000000 in
theorem rsplit_some (l : List UInt8) (hl : l.length ≤ 100000) (w : World) (hem : l.isEmpty = false) :
    Calls Tryd.prog 37 #[.string (B l)] w fun e w' => ∃ v, e = .returned (.tuple #[v, .int .i64 (splitE (splitOf l))]) ∧ StrRow w.heap.size w' v (splitR (splitOf l)) ∧ Kept w w' := by
  have h1 : (B l).toList.isEmpty = false := by rw [B_empty]; exact hem
  have HE : Hid (splitE (splitOf l) = splitE (splitGo [] l) ∧ splitR (splitOf l) = splitR (splitGo [] l)) := by
    have : splitOf l = splitGo [] l := by
      unfold splitOf
      rw [if_neg (by intro e; rw [e] at hem; cases hem)]
    rw [this]
    exact ⟨rfl, rfl⟩
  have hsz := B_size l
  clear hem
  go_enter Tryd.func37, Tryd.ntmps37
  go_wp2_with fail
  clear h1
  go_loopw [4, 5, 6] (fun v t i wr => ∃ (done : List (List UInt8)) (cur : List UInt8) (k : Nat), t = .string (B cur) ∧ i = .int .i64 k ∧ k ≤ l.length + 1 ∧ RSplInv l done cur k ∧ StrRow w.heap.size wr v done ∧ Kept w wr) (fun _ _ i _ => l.length + 1 - (intOf i).toNat)
  case atStart => exact ⟨[], [], 0, rfl, rfl, by omega, ⟨fun _ => by rw [List.drop_zero]; simp, fun h => by omega, by simp, by simp⟩, StrRow.nil _ _, Kept.refl _⟩
  case round =>
    obtain ⟨done, cur, k, rfl, rfl, hk, HI, hv, T⟩ := hrel
    have hT := T.size
    have hdl : done.length ≤ 1000000 := by have := HI.2.2.1; omega
    have hcl : cur.length ≤ 200000 := by have := HI.2.2.2; omega
    by_cases hkl : k < l.length
    · have b1 : (k : Int) ≤ (l.length : Int) := by omega
      have b2 : (0 : Int) ≤ (k : Int) := by omega
      have b3 : ((k : Int) == (l.length : Int)) = false := by rw [beq_eq_false_iff_ne]; omega
      have b4 : (k : Int) < (l.length : Int) := by omega
      obtain ⟨c, e1, e2, e3, _⟩ := byte_get (B l) k (by rw [B_size]; exact hkl)
      rw [B_list] at e2 e3
      have HG : Hid (l[k]? = some c) := e2
      have HB := RSplInv.byte HI hkl e3
      have HB : Hid _ := HB
      clear e2 e3
      by_cases h32 : c = 32
      · have t1 : ((c.toNat : Int) == 32) = true := by rw [h32]; rfl
        have HC : Hid (c = 32) := h32
        clear h32
        by_cases hcu : cur = []
        · have t2 : (B cur).toList.isEmpty = true := by rw [B_empty, hcu]; rfl
          have HN : Hid (splitGo [] l = none) := by
            have := HB.out
            rw [if_pos HC.out, if_pos hcu] at this
            exact this.symm
          clear hcu
          go_wp2_with fail
          go_ret2
          have h5 := HE.out
          rw [HN.out] at h5
          rw [h5.1, h5.2]
          exact ⟨_, rfl, StrRow.nil _ _, T⟩
        · have t2 : (B cur).toList.isEmpty = false := by rw [B_empty]; exact isEmpty_no hcu
          have HN : Hid ((splitGo [] (l.drop (k + 1))).map ((done ++ [cur]) ++ ·) = splitGo [] l) := by
            have := HB.out
            rw [if_pos HC.out, if_neg hcu] at this
            show _ = _
            rw [← this]
            cases splitGo [] (l.drop (k + 1)) <;> simp
          clear hcu
          go_wp2_with (at_builtin; refine wpList_append_str _ (by rfl) _ _ rfl w.heap.size u4 done cur (B cur) rfl wr rfl (by rfl) wr.heap.size rfl (by rfl) hv hdl hT ?_; intro g3 c3 w3 i3 t3)
          go_roundw
          case rel =>
            refine ⟨done ++ [cur], [], k + 1, rfl, by go_num, by omega, ⟨fun _ => HN.out, fun h => by omega, ?_, by simp⟩, i3, Below.trans T t3⟩
            have := HI.2.2.1; simp; omega
          case measure => simp [intOf]; omega
      · have t1 : ((c.toNat : Int) == 32) = false := by
          rw [beq_eq_false_iff_ne]
          intro e
          exact h32 (UInt8.toNat_inj.1 (by rw [show (32 : UInt8).toNat = 32 from rfl]; omega))
        have HC : Hid (¬ c = 32) := h32
        clear h32
        by_cases hb : c.toNat < 33 ∨ 126 < c.toNat
        · have HN : Hid (splitGo [] l = none) := by
            have := HB.out
            rw [if_neg HC.out, if_pos hb] at this
            exact this.symm
          by_cases h33 : c.toNat < 33
          · have t2 : decide ((c.toNat : Int) < 33) = true := decide_eq_true (by omega)
            clear hb h33
            go_wp2_with fail
            go_ret2
            have h5 := HE.out
            rw [HN.out] at h5
            rw [h5.1, h5.2]
            exact ⟨_, rfl, StrRow.nil _ _, T⟩
          · have t2 : decide ((c.toNat : Int) < 33) = false := decide_eq_false (by omega)
            have t3 : decide (126 < (c.toNat : Int)) = true := decide_eq_true (by omega)
            clear hb h33
            go_wp2_with fail
            go_ret2
            have h5 := HE.out
            rw [HN.out] at h5
            rw [h5.1, h5.2]
            exact ⟨_, rfl, StrRow.nil _ _, T⟩
        · have HN : Hid ((splitGo (cur ++ [c]) (l.drop (k + 1))).map (done ++ ·) = splitGo [] l) := by
            have := HB.out
            rw [if_neg HC.out, if_neg hb] at this
            exact this
          have t2 : decide ((c.toNat : Int) < 33) = false := decide_eq_false (by omega)
          have t3 : decide (126 < (c.toNat : Int)) = false := decide_eq_false (by omega)
          have hpc : (B l).extract k (k + 1) = B [c] := by
            rw [B_extract]
            have := piece_next (i := k) HG.out (Nat.le_refl k)
            rw [piece_same, List.nil_append] at this
            unfold piece at this
            rw [this]
          have hadd : ∀ wx, (Op.stringOp .add (B cur) (B [c])).run Tryd.prog wx = .ok (.string (B (cur ++ [c]))) wx := by
            intro wx
            rw [run_string_add_sum _ _ _ (by rw [B_size, B_size]; simp; omega), B_add]
          have b6 : (k : Int) + 1 ≤ (l.length : Int) := by omega
          clear hb
          go_wp2_with fail
          go_roundw
          case rel =>
            refine ⟨done, cur ++ [c], k + 1, rfl, by go_num, by omega, ⟨fun _ => HN.out, fun h => by omega, ?_, ?_⟩, hv, T⟩
            · have := HI.2.2.1; omega
            · have := HI.2.2.2; simp; omega
          case measure => simp [intOf]; omega
    · by_cases hke : k = l.length
      · subst hke
        have b1 : ((l.length : Nat) : Int) ≤ (l.length : Int) := by omega
        have b3 : ((l.length : Int) == (l.length : Int)) = true := by simp
        have HB := RSplInv.last HI
        have HB : Hid _ := HB
        by_cases hcu : cur = []
        · have t2 : (B cur).toList.isEmpty = true := by rw [B_empty, hcu]; rfl
          have HN : Hid (splitGo [] l = none) := by
            have := HB.out
            rw [if_pos hcu] at this
            exact this.symm
          clear hcu
          go_wp2_with fail
          go_ret2
          have h5 := HE.out
          rw [HN.out] at h5
          rw [h5.1, h5.2]
          exact ⟨_, rfl, StrRow.nil _ _, T⟩
        · have t2 : (B cur).toList.isEmpty = false := by rw [B_empty]; exact isEmpty_no hcu
          have HN : Hid (splitGo [] l = some (done ++ [cur])) := by
            have := HB.out
            rw [if_neg hcu] at this
            exact this.symm
          clear hcu
          go_wp2_with (at_builtin; refine wpList_append_str _ (by rfl) _ _ rfl w.heap.size u4 done cur (B cur) rfl wr rfl (by rfl) wr.heap.size rfl (by rfl) hv hdl hT ?_; intro g3 c3 w3 i3 t3)
          go_roundw
          case rel =>
            refine ⟨done ++ [cur], [], l.length + 1, rfl, by go_num, by omega, ⟨fun h => by omega, fun _ => HN.out, ?_, by simp⟩, i3, Below.trans T t3⟩
            have := HI.2.2.1; simp; omega
          case measure => simp [intOf]
      · have b1 : ¬ (k : Int) ≤ (l.length : Int) := by omega
        have HN : Hid (splitGo [] l = some done) := HI.2.1 (by omega)
        go_wp2
        go_ret2
        have h5 := HE.out
        rw [HN.out] at h5
        rw [h5.1, h5.2]
        exact ⟨_, rfl, hv, T⟩

theorem rsplit_any (l : List UInt8) (hl : l.length ≤ 100000) (w : World) :
    Calls Tryd.prog 37 #[.string (B l)] w fun e w' => ∃ v, e = .returned (.tuple #[v, .int .i64 (splitE (splitOf l))]) ∧ StrRow w.heap.size w' v (splitR (splitOf l)) ∧ Kept w w' := by
  cases hem : l.isEmpty with
  | false => exact rsplit_some l hl w hem
  | true =>
    have h1 : (B l).toList.isEmpty = true := by rw [B_empty]; exact hem
    have HE : Hid (splitE (splitOf l) = 0 ∧ splitR (splitOf l) = []) := by
      have : l = [] := by simpa using hem
      subst this
      exact ⟨rfl, rfl⟩
    clear hem
    go_enter Tryd.func37, Tryd.ntmps37
    go_wp2_with fail
    go_ret2
    rw [HE.out.1, HE.out.2]
    exact ⟨_, rfl, StrRow.nil _ _, Kept.refl _⟩
end Go.Proofs.YtiiddfahpddffaaDoor
