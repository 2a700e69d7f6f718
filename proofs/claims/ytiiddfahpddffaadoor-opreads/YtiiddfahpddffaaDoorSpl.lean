/- Split of the program, by its contract. -/
import Derived.Test.YtiiddfahpddffaaDoorLin
namespace Go.Proofs.YtiiddfahpddffaaDoor
open Go.RowKit

/-- The error of Split; what it tells. -/
def splitE (o : Option (List (List UInt8))) : Int := if o.isSome then 0 else 2
def splitR (o : Option (List (List UInt8))) : List (List UInt8) := o.getD []
/-- How much is left of a loop that goes on as long as m says so. -/
def lenM (t m : Value) : Nat := match m with
  | .bool true => strLen t + 1
  | _ => 0

/-- What a round of Split keeps. -/
def SplLen (l r : List UInt8) (done : List (List UInt8)) (mo : Bool) : Prop := r.length ≤ l.length ∧ done.length ≤ l.length + 1 - (if mo then r.length + 1 else 0)
def SplInv (l r : List UInt8) (done : List (List UInt8)) (mo : Bool) : Prop := (mo = true → (splitGo [] r).map (done ++ ·) = splitGo [] l) ∧ (mo = false → splitGo [] l = some done)

set_option maxHeartbeats 2000000 in
theorem split_any (l : List UInt8) (hl : l.length ≤ 100000) (w : World) (hr : Rdy w) :
    Calls Tryd.prog 30 #[.string (B l)] w fun e w' => ∃ v, e = .returned (.tuple #[v, .int .i64 (splitE (splitOf l))]) ∧ StrRow w.heap.size w' v (splitR (splitOf l)) ∧ Kept w w' := by
  by_cases hem : l.isEmpty = true
  · have h1 : (B l).toList.isEmpty = true := by rw [B_empty]; exact hem
    have HE : Hid (splitE (splitOf l) = 0 ∧ splitR (splitOf l) = []) := by
      have : l = [] := by simpa using hem
      subst this
      exact ⟨rfl, rfl⟩
    clear hem
    go_enter Tryd.func30, Tryd.ntmps30
    go_wp2_with fail
    go_step3
    go_wp2_with fail
    rw [Exit.noGoto_ret]
    go_ret2
    rw [HE.out.1, HE.out.2]
    exact ⟨_, rfl, StrRow.nil _ _, Kept.refl _⟩
  · have h1 : (B l).toList.isEmpty = false := by rw [B_empty]; simpa using hem
    have HE : Hid (splitE (splitOf l) = splitE (splitGo [] l) ∧ splitR (splitOf l) = splitR (splitGo [] l)) := by
      have : splitOf l = splitGo [] l := by
        unfold splitOf
        rw [if_neg (by simpa using hem)]
      rw [this]
      exact ⟨rfl, rfl⟩
    clear hem
    go_enter Tryd.func30, Tryd.ntmps30
    go_wp2_with fail
    go_step3
    go_wp2_with fail
    go_step3
    go_wp2_with fail
    clear h1
    go_loopw [0, 4, 5, 6] (fun t v e m wr => ∃ r done mo, t = .string (B r) ∧ e = .int .i64 0 ∧ m = .bool mo ∧ SplLen l r done mo ∧ SplInv l r done mo ∧ StrRow w.heap.size wr v done ∧ Kept w wr) (fun t _ _ m _ => lenM t m)
    case atStart => exact ⟨l, [], true, rfl, rfl, rfl, ⟨Nat.le_refl _, by simp⟩, ⟨fun _ => by simp, fun h => by cases h⟩, StrRow.nil _ _, Kept.refl _⟩
    case round =>
      obtain ⟨r, done, mo, rfl, rfl, rfl, HN, HP, hv, T⟩ := hrel
      have hsz := T.size
      have hrl := HN.1
      have hdl : done.length ≤ 1000000 := by have := HN.2; omega
      cases mo with
      | true =>
        rcases cut_one 32 r with ⟨a, b, e1, e2, _⟩ | ⟨e1, _⟩
        · subst e1
          have HL : Hid (splitGo [] (a ++ 32 :: b) = if within 33 126 a then (splitGo [] b).map (a :: ·) else none) := split_hit a b e2
          have HA : Hid (a.length + 1 + b.length = (a ++ 32 :: b).length ∧ (a ++ 32 :: b).length ≤ l.length ∧ done.length + (a.length + b.length + 2) ≤ l.length + 1) := by
            have h7 := HN.2
            have h8 : (a ++ 32 :: b).length = a.length + 1 + b.length := by simp; omega
            rw [h8] at hrl h7 ⊢
            refine ⟨rfl, hrl, ?_⟩
            simp at h7
            omega
          have hal : a.length ≤ 100000 := by have := HA.out.2.1; have := HA.out.1; omega
          have hcut := cut_hit 32 a b e2 wr (hr.kept T) (by omega)
          clear e2 hrl
          have hisw := isWord_any (B a) (by rw [B_size]; omega)
          rw [B_list] at hisw
          by_cases hw : within 33 126 a = true
          · have HG : Hid (splitGo [] (a ++ 32 :: b) = (splitGo [] b).map (a :: ·)) := by show _ = _; rw [HL.out, if_pos hw]
            rw [hw] at hisw
            clear hw
            go_wp2_with fail
            refine hcut.mono ?_
            rintro e w1 ⟨rfl, n1, hx⟩
            subst hx
            clear hcut
            have T1 := T.drewN n1
            go_wp2_with fail
            refine (hisw _).mono ?_
            rintro e w2 ⟨rfl, hx⟩
            subst w2
            clear hisw
            go_wp2_with fail
            refine (clone_any (B a) (by rw [B_size]; omega) _).mono ?_
            rintro e w2 ⟨rfl, k2⟩
            have v2 : StrRow w.heap.size w2 u4 done := StrRow.kept (w := wr.drewN n1) hv k2
            have T2 := T1.trans k2
            have hB2 : w.heap.size ≤ w2.heap.size := T2.size
            go_wp2_with (at_builtin; refine wpList_append_str _ (by rfl) _ _ rfl w.heap.size u4 done a (B a) rfl w2 rfl (by rfl) w2.heap.size rfl (by rfl) v2 hdl hB2 ?_; intro g3 c3 w3 i3 t3)
            go_roundw
            case rel =>
              refine ⟨b, done ++ [a], true, rfl, rfl, rfl, ⟨by have := HA.out; omega, ?_⟩, ⟨?_, fun h => by cases h⟩, ?_, Below.trans T2 t3⟩
              · have := HN.2; have := HA.out; simp; omega
              · intro _
                rw [← HP.1 rfl, HG.out]
                cases splitGo [] b <;> simp
              · exact i3
            case measure =>
              have := HA.out
              simp [lenM, strLen, B_size]
              omega
          · have HG : Hid (splitGo [] (a ++ 32 :: b) = none) := by show _ = _; rw [HL.out, if_neg hw]
            have hw' : within 33 126 a = false := by simpa using hw
            rw [hw'] at hisw
            clear hw hw'
            go_wp2_with fail
            refine hcut.mono ?_
            rintro e w1 ⟨rfl, n1, hx⟩
            subst hx
            clear hcut
            go_wp2_with fail
            refine (hisw _).mono ?_
            rintro e w2 ⟨rfl, hx⟩
            subst w2
            clear hisw
            go_wp2
            rw [Exit.noGoto_ret]
            go_ret2
            have hn : splitGo [] l = none := by rw [← HP.1 rfl, HG.out]; rfl
            have h5 := HE.out
            rw [hn] at h5
            rw [h5.1, h5.2]
            exact ⟨_, rfl, StrRow.nil _ _, T.drewN n1⟩
        · have HL : Hid (splitGo [] r = if within 33 126 r then some [r] else none) := split_miss r e1
          have HA : Hid (done.length + (r.length + 1) ≤ l.length + 1) := by
            have h7 := HN.2
            simp at h7
            show _ ≤ _
            omega
          have hcut := cut_miss 32 r e1 wr (hr.kept T) (by omega)
          clear e1
          have hisw := isWord_any (B r) (by rw [B_size]; omega)
          rw [B_list] at hisw
          by_cases hw : within 33 126 r = true
          · have HG : Hid (splitGo [] r = some [r]) := by show _ = _; rw [HL.out, if_pos hw]
            rw [hw] at hisw
            clear hw
            go_wp2_with fail
            refine hcut.mono ?_
            rintro e w1 ⟨rfl, n1, hx⟩
            subst hx
            clear hcut
            have T1 := T.drewN n1
            go_wp2_with fail
            refine (hisw _).mono ?_
            rintro e w2 ⟨rfl, hx⟩
            subst w2
            clear hisw
            go_wp2_with fail
            refine (clone_any (B r) (by rw [B_size]; omega) _).mono ?_
            rintro e w2 ⟨rfl, k2⟩
            have v2 : StrRow w.heap.size w2 u4 done := StrRow.kept (w := wr.drewN n1) hv k2
            have T2 := T1.trans k2
            have hB2 : w.heap.size ≤ w2.heap.size := T2.size
            go_wp2_with (at_builtin; refine wpList_append_str _ (by rfl) _ _ rfl w.heap.size u4 done r (B r) rfl w2 rfl (by rfl) w2.heap.size rfl (by rfl) v2 hdl hB2 ?_; intro g3 c3 w3 i3 t3)
            go_roundw
            case rel =>
              refine ⟨[], done ++ [r], false, rfl, rfl, rfl, ⟨by simp, ?_⟩, ⟨(fun h => by cases h), ?_⟩, ?_, Below.trans T2 t3⟩
              · have := HN.2; have := HA.out; simp; omega
              · intro _
                rw [← HP.1 rfl, HG.out]
                simp
              · exact i3
            case measure => simp [lenM]
          · have HG : Hid (splitGo [] r = none) := by show _ = _; rw [HL.out, if_neg hw]
            have hw' : within 33 126 r = false := by simpa using hw
            rw [hw'] at hisw
            clear hw hw'
            go_wp2_with fail
            refine hcut.mono ?_
            rintro e w1 ⟨rfl, n1, hx⟩
            subst hx
            clear hcut
            go_wp2_with fail
            refine (hisw _).mono ?_
            rintro e w2 ⟨rfl, hx⟩
            subst w2
            clear hisw
            go_wp2
            rw [Exit.noGoto_ret]
            go_ret2
            have hn : splitGo [] l = none := by rw [← HP.1 rfl, HG.out]; rfl
            have h5 := HE.out
            rw [hn] at h5
            rw [h5.1, h5.2]
            exact ⟨_, rfl, StrRow.nil _ _, T.drewN n1⟩
      | false =>
        go_wp2
        rw [Exit.noGoto_ret]
        go_ret2
        have h4 := HP.2 rfl
        have h5 := HE.out
        rw [h4] at h5
        rw [h5.1, h5.2]
        exact ⟨_, rfl, hv, T⟩
end Go.Proofs.YtiiddfahpddffaaDoor
