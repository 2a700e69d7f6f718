/- WordAny, walked. -/
import Derived.Test.YtfmoijmfndmgaaaDoorKnown
namespace Go.Proofs.YtfmoijmfndmgaaaDoor
open Go.RowKit

theorem linesGo_len : ∀ (l cur : List UInt8), (linesGo cur l).length ≤ l.length
  | [], _ => by simp [linesGo]
  | c :: r, cur => by
    rw [linesGo]
    split
    · have := linesGo_len r []
      simp; omega
    · have := linesGo_len r (cur ++ [c])
      simp; omega
theorem linesR_len (l : List UInt8) : (linesR l).length ≤ l.length := by
  unfold linesR linesOf
  split
  · exact linesGo_len l []
  · simp
theorem splitGo_len : ∀ (l cur : List UInt8) (x : List (List UInt8)), splitGo cur l = some x → x.length ≤ l.length + 1
  | [], cur, x, h => by
    rw [splitGo] at h
    split at h
    · cases h
    · cases h; simp
  | c :: r, cur, x, h => by
    rw [splitGo] at h
    split at h
    · split at h
      · cases h
      · obtain ⟨y, hy, rfl⟩ := Option.map_eq_some_iff.1 h
        have := splitGo_len r [] y hy
        simp; omega
    · split at h
      · cases h
      · have := splitGo_len r (cur ++ [c]) x h
        simp; omega
theorem splitR_len (l : List UInt8) : (splitR (splitOf l)).length ≤ l.length + 1 := by
  unfold splitOf
  split
  · simp [splitR]
  · cases h : splitGo [] l with
    | none => simp [splitR]
    | some x => exact splitGo_len l [] x h

set_option maxHeartbeats 400000 in
theorem any_skip (s : ByteArray) (h : ¬ s.size ≤ 400) (w : World) (hr : Rdy w) :
    Calls Tryd.prog 3 #[.string s] w fun e w' => e = .returned (.bool true) ∧ Kept w w' := by
  have t1 : decide (400 < (s.size : Int)) = true := decide_eq_true (by omega)
  go_enter Tryd.func3, Tryd.ntmps3
  go_wp2_with fail
  refine (known_true w hr).mono ?_
  rintro e w1 ⟨rfl, T1⟩
  go_wp2_with fail
  go_ret
  exact ⟨rfl, T1⟩

set_option maxHeartbeats 2000000 in
theorem any_some (l : List UInt8) (hl : l.length ≤ 400) (w : World) (hr : Rdy w) :
    Calls Tryd.prog 3 #[.string (B l)] w fun e w' => e = .returned (.bool true) ∧ Kept w w' := by
  have hsz := B_size l
  have t1 : decide (400 < (l.length : Int)) = false := decide_eq_false (by omega)
  have q1 := linesR_len l
  have q2 := splitR_len l
  have hli := lines_any l (by omega)
  have hrl := rlines_any l (by omega)
  have hsp := split_any l (by omega)
  have hrs := rsplit_any l (by omega)
  have hnu := number_any l (by omega)
  have hrn := rnumber_any l (by omega)
  have hna := name_any (B l)
  have hrm := rname_any (B l)
  rw [B_list] at hna hrm
  have HN : Hid ((numOf l).2 = 0 → Lib.itoa (numOf l).1 = l ∧ -9223372036854775808 ≤ (numOf l).1 ∧ (numOf l).1 ≤ 9223372036854775807) := by
    intro h0
    rcases numOf_cases l with ⟨_, e⟩ | ⟨_, e | ⟨n, e, e1, e2⟩⟩
    · rw [e] at h0; simp at h0
    · rw [e] at h0; simp at h0
    · rw [e]
      exact ⟨itoa_num e, e1, e2⟩
  generalize linesE l = le at *
  generalize linesR l = lr at *
  generalize splitE (splitOf l) = se at *
  generalize splitR (splitOf l) = sr at *
  generalize (numOf l).1 = nv at *
  generalize (numOf l).2 = ne at *
  generalize nameB l = nb at *
  have f1 : (le != le) = false := by simp
  have f2 : (se != se) = false := by simp
  have f3 : (ne != ne) = false := by simp
  have f4 : (nv != nv) = false := by simp
  have f5 : (nb != nb) = false := by simp
  go_enter Tryd.func3, Tryd.ntmps3
  go_wp2_with fail
  refine (known_true w hr).mono ?_
  rintro e w1 ⟨rfl, T1⟩
  go_wp2_with fail
  refine (hli w1 (hr.kept T1)).mono ?_
  rintro e w2 ⟨v2, rfl, r2, k2⟩
  have T2 := T1.trans k2
  obtain ⟨a2, c2, rfl, p2⟩ := r2.at
  clear r2 hli
  go_wp2_with fail
  refine (hrl w2).mono ?_
  rintro e w3 ⟨v3, rfl, r3, k3⟩
  have T3 := T2.trans k3
  obtain ⟨a3, c3, rfl, p3⟩ := r3.at
  have p2 := p2.kept k3
  clear r3 hrl k3
  go_wp2_with fail
  refine (hsp w3 (hr.kept T3)).mono ?_
  rintro e w4 ⟨v4, rfl, r4, k4⟩
  have T4 := T3.trans k4
  obtain ⟨a4, c4, rfl, p4⟩ := r4.at
  have p2 := p2.kept k4
  have p3 := p3.kept k4
  clear r4 hsp k4
  go_wp2_with fail
  refine (hrs w4).mono ?_
  rintro e w5 ⟨v5, rfl, r5, k5⟩
  have T5 := T4.trans k5
  obtain ⟨a5, c5, rfl, p5⟩ := r5.at
  have p2 := p2.kept k5
  have p3 := p3.kept k5
  have p4 := p4.kept k5
  clear r5 hrs k5
  go_wp2_with fail
  refine (hnu w5 (hr.kept T5)).mono ?_
  rintro e w6 ⟨rfl, k6⟩
  have T6 := T5.trans k6
  have p2 := p2.kept k6
  have p3 := p3.kept k6
  have p4 := p4.kept k6
  have p5 := p5.kept k6
  clear hnu k6
  go_wp2_with fail
  refine (hrn w6).mono ?_
  rintro e w7 ⟨rfl, hw⟩
  subst w7
  clear hrn
  go_wp2_with fail
  refine (words_yes p2 p3 (by omega)).mono ?_
  rintro e w8 ⟨rfl, k8⟩
  have T8 := T6.trans k8
  have p4 := p4.kept k8
  have p5 := p5.kept k8
  clear p2 p3 k8
  go_wp2_with fail
  refine (words_yes p4 p5 (by omega)).mono ?_
  rintro e w9 ⟨rfl, k9⟩
  have T9 := T8.trans k9
  clear p4 p5 k9
  go_wp2_with fail
  refine (hna w9).mono ?_
  rintro e w10 ⟨rfl, hw⟩
  subst w10
  clear hna
  go_wp2_with fail
  refine (hrm w9).mono ?_
  rintro e w10 ⟨rfl, hw⟩
  subst w10
  clear hrm
  by_cases h0 : ne = 0
  · subst h0
    obtain ⟨i1, i2, i3⟩ := HN.out rfl
    have hte := text_any nv i2 i3
    rw [i1] at hte
    have f6 : ((B l).toList == (B l).toList) = true := by simp
    clear i1 i2 i3 HN
    go_wp2_with fail
    refine (hte w9 (hr.kept T9)).mono ?_
    rintro e w10 ⟨rfl, k10⟩
    go_wp2_with fail
    go_ret
    exact ⟨rfl, T9.trans k10⟩
  · have f6 : (ne != 0) = true := by rw [bne_iff_ne]; exact h0
    clear h0 HN
    go_wp2_with fail
    go_ret
    exact ⟨rfl, T9⟩

theorem any_any (s : ByteArray) (w : World) (hr : Rdy w) :
    Calls Tryd.prog 3 #[.string s] w fun e w' => e = .returned (.bool true) ∧ Kept w w' := by
  by_cases h : s.size ≤ 400
  · have := any_some s.data.toList (by rw [← Lib.size_eq]; exact h) w hr
    rw [B_of] at this
    exact this
  · exact any_skip s h w hr
end Go.Proofs.YtfmoijmfndmgaaaDoor
