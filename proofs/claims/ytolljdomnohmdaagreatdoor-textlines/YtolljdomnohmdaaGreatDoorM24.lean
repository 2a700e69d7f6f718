/- TextTells, walked. -/
import Derived.Test.YtolljdomnohmdaaGreatDoorM23
import Derived.Test.YtolljdomnohmdaaGreatDoorM18
import Derived.Test.YtolljdomnohmdaaGreatDoorM8
import Derived.Test.YtolljdomnohmdaaGreatDoorTxt
import Derived.Test.YtolljdomnohmdaaGreatDoorM17
namespace Go.Proofs.YtolljdomnohmdaaGreatDoor
open Go.RowKit Go.Shelf

theorem sameCs_self : ∀ cs : List ChanD, sameCs cs cs = true
  | [] => rfl
  | c :: r => by
    have ih := sameCs_self r
    simp [sameCs, sameH, ih]
theorem sameP_self : ∀ p : List OpD, sameP p p = true
  | [] => rfl
  | o :: r => by
    have ih := sameP_self r
    simp [sameP, sameD_self, ih]
theorem sameTs_self : ∀ ts : List TaskD, sameTs ts ts = true
  | [] => rfl
  | t :: r => by
    have ih := sameTs_self r
    simp [sameTs, sameT, sameP_self, ih]
theorem sameS_self (L : Int) (cs : List ChanD) (ts : List TaskD) : sameS L cs ts L cs ts = true := by simp [sameS, sameCs_self, sameTs_self]
theorem wd_len {ws : List (List UInt8)} (h : ∀ x ∈ ws, x.length ≤ 60) (hn : ws.length ≤ 5) : (joinW ws).length ≤ 1000 := by
  have := wl_len ws h hn
  unfold wlD at this
  rw [List.length_append] at this
  omega
/-- The lines of a printed set are not too long. -/
theorem lines_long {L : Int} {cs : List ChanD} {ts : List TaskD} (h : SetOk L cs ts) (hi : ∀ t ∈ ts, ∀ o ∈ t.prog, In64 o) : ∀ x ∈ linesS L cs ts, x.length ≤ 1000 := by
  intro x hx
  unfold linesS at hx
  rw [List.mem_cons, List.mem_append] at hx
  rcases hx with rfl | hx | hx
  · refine wd_len (fun x hx => ?_) (by simp)
    have h1 := itoa_len (in64_of (n := L) (by have := h.L0; omega) (by have := h.L0; omega))
    simp only [List.mem_cons, List.not_mem_nil, or_false] at hx
    rcases hx with rfl | rfl
    · decide
    · omega
  · obtain ⟨c, hc, rfl⟩ := List.mem_map.1 hx
    exact wd_len (chanWs_bd (h.ch c hc)) (by simp [chanWs])
  · obtain ⟨t, ht, hx⟩ := List.mem_flatMap.1 hx
    unfold taskLs at hx
    rw [List.mem_cons] at hx
    rcases hx with rfl | hx
    · exact wd_len (taskWs_bd (h.nm t ht).1 (h.tm t ht)) (by simp [taskWs])
    · obtain ⟨o, ho, rfl⟩ := List.mem_map.1 hx
      have := textD_bd ((taken_prog (h.pg t ht)).2.1 o ho) (hi t ht o ho)
      omega
theorem lines_many : ∀ ts : List TaskD, (∀ t ∈ ts, t.prog.length ≤ 48) → (ts.flatMap taskLs).length ≤ ts.length * 49
  | [], _ => by simp
  | t :: r, h => by
    have ih := lines_many r (fun u hu => h u (by simp [hu]))
    have h1 := h t (by simp)
    rw [List.flatMap_cons, List.length_append, List.length_cons]
    unfold taskLs
    rw [List.length_cons, List.length_map]
    unfold taskLs at ih
    omega
theorem lines_few {L : Int} {cs : List ChanD} {ts : List TaskD} (h : SetOk L cs ts) : (linesS L cs ts).length ≤ 100000 := by
  have h1 := lines_many ts (fun t ht => (taken_prog (h.pg t ht)).1)
  have h2 := h.nc
  have h3 := h.nt.2
  unfold linesS
  rw [List.length_cons, List.length_append, List.length_map]
  have : ts.length * 49 ≤ 12 * 49 := Nat.mul_le_mul_right _ h3
  omega
theorem linesOf_textS {L : Int} {cs : List ChanD} {ts : List TaskD} (h : SetOk L cs ts) : linesOf (textS L cs ts) = linesS L cs ts := by
  rw [textS_put]
  exact lines_putL _ (linesS_bytes h)
end Go.Proofs.YtolljdomnohmdaaGreatDoor
namespace Go.Proofs.YtolljdomnohmdaaGreatDoor
open Go.RowKit

def cntT : List TaskD → Nat
  | [] => 0
  | t :: r => 1 + t.prog.length + cntT r
/-- How many lines told it. -/
def cntR (s : RdD) : Nat := (if s.bg = true then 1 else 0) + s.cs.length + cntT s.ts
theorem cntT_app : ∀ (a b : List TaskD), cntT (a ++ b) = cntT a + cntT b
  | [], b => by simp [cntT]
  | t :: r, b => by
    have ih := cntT_app r b
    simp only [List.cons_append, cntT, ih]
    omega
theorem may_locks {s : RdD} (h : mayB s locksW = true) : s.bg = false := by
  unfold mayB at h
  split at h
  · assumption
  · rw [if_neg (by decide), if_neg (by decide), Bool.and_eq_true] at h
    exact absurd h.1 (by decide)
theorem may_begun {s : RdD} {x : List UInt8} (h : mayB s x = true) (hx : x ≠ locksW) : s.bg = true := by
  unfold mayB at h
  split at h
  · exact absurd (eq_of_beq h) hx
  · rename_i hb
    simpa using hb
/-- Each line that is taken is told by one thing more; nothing but the line of the locks is there first. -/
theorem add_count {s : RdD} {line : List UInt8} (h0 : (addD s line).2 = 0) : cntR (addD s line).1 = cntR s + 1 ∧ (addD s line).1.bg = true := by
  cases hs : splitOf line with
  | none => rw [add_none hs] at h0; cases h0
  | some ws =>
    rw [add_some hs] at h0 ⊢
    split at h0
    · cases h0
    · rename_i hm
      rw [if_neg hm]
      split at h0
      · cases h0
      · rename_i hf
        rw [if_neg hf]
        have hm' : mayB s (ws.headD []) = true := by simpa using hm
        split at h0
        · rename_i e
          rw [if_pos e]
          rw [e] at hm'
          have hb := may_locks hm'
          unfold addLocksD at h0 ⊢
          split at h0
          · split at h0
            · rename_i h1
              rw [if_pos h1]
              refine ⟨?_, rfl⟩
              simp only [cntR, hb]
              simp
              omega
            · rename_i h1; exact absurd h0 h1
          · cases h0
        · rename_i e0
          rw [if_neg e0]
          have hb := may_begun hm' e0
          split at h0
          · rename_i e
            rw [if_pos e]
            unfold addChanD at h0 ⊢
            split at h0
            · split at h0
              · rename_i h1
                split at h0
                · rename_i h2
                  rw [if_pos h1, if_pos h2]
                  simp only [cntR, List.length_append, List.length_singleton]
                  exact ⟨by omega, hb⟩
                · rename_i h2; exact absurd h0 h2
              · rename_i h1; exact absurd h0 h1
            · cases h0
          · rename_i e1
            rw [if_neg e1]
            split at h0
            · rename_i e
              rw [if_pos e]
              unfold addTaskD at h0 ⊢
              split at h0
              · split at h0
                · rename_i h1
                  split at h0
                  · rename_i h2
                    split at h0
                    · rename_i h3
                      rw [if_pos h1, if_pos h2, if_pos h3]
                      simp only [cntR, cntT_app, cntT, List.length_nil]
                      exact ⟨by omega, hb⟩
                    · rename_i h3; exact absurd h0 h3
                  · rename_i h2; exact absurd h0 h2
                · rename_i h1; exact absurd h0 h1
              · cases h0
            · rename_i e2
              rw [if_neg e2]
              obtain ⟨ts, t, hts⟩ := last_split s.ts (may_op hm' e0 e1 e2)
              unfold addOpD at h0 ⊢
              split at h0
              · rename_i h1
                rw [if_pos h1]
                simp only [cntR]
                rw [hts, putOp_app, cntT_app, cntT_app]
                simp only [cntT, List.length_append, List.length_singleton]
                exact ⟨by omega, hb⟩
              · rename_i h1; exact absurd h0 h1
theorem read_count : ∀ (ls : List (List UInt8)) (s : RdD) (i : Nat), (readGo s i ls).2.2 = 0 → cntR (readGo s i ls).1 = cntR s + ls.length ∧ ((readGo s i ls).1.bg = true ∨ ls = [])
  | [], s, i, _ => ⟨by simp [readGo], .inr rfl⟩
  | l :: r, s, i, h0 => by
    by_cases hq : (addD s l).2 = 0
    · have h1 := add_count hq
      rw [readGo_ok hq] at h0 ⊢
      have ih := read_count r _ _ h0
      refine ⟨by rw [ih.1, h1.1, List.length_cons]; omega, .inl ?_⟩
      rcases ih.2 with h2 | h2
      · exact h2
      · rw [h2]; exact h1.2
    · rw [readGo_err hq] at h0
      exact absurd h0 hq
theorem sameCs_eq : ∀ (a b : List ChanD), sameCs a b = true → a.length = b.length
  | [], [], _ => rfl
  | [], _ :: _, h => by simp [sameCs] at h
  | _ :: _, [], h => by simp [sameCs] at h
  | x :: a, y :: b, h => by
    rw [sameCs] at h
    split at h
    · simp [sameCs_eq a b h]
    · cases h
theorem sameP_eq : ∀ (a b : List OpD), sameP a b = true → a.length = b.length
  | [], [], _ => rfl
  | [], _ :: _, h => by simp [sameP] at h
  | _ :: _, [], h => by simp [sameP] at h
  | x :: a, y :: b, h => by
    rw [sameP] at h
    split at h
    · simp [sameP_eq a b h]
    · cases h
theorem sameTs_cnt : ∀ (a b : List TaskD), sameTs a b = true → cntT a = cntT b
  | [], [], _ => rfl
  | [], _ :: _, h => by simp [sameTs] at h
  | _ :: _, [], h => by simp [sameTs] at h
  | x :: a, y :: b, h => by
    rw [sameTs] at h
    split at h
    · rename_i hx
      have h1 := sameP_eq _ _ ((sameT_iff x y).1 hx).2.2.2.2
      have ih := sameTs_cnt a b h
      simp only [cntT]
      omega
    · cases h
/-- What is read as a set has as many lines as the set tells. -/
theorem parse_count {l : List UInt8} {L : Int} {cs : List ChanD} {ts : List TaskD} (h : (parseS l).2.2 = 0) (hs : sameS (parseS l).1.L (parseS l).1.cs (parseS l).1.ts L cs ts = true) : (linesOf l).length = 1 + cs.length + cntT ts := by
  unfold parseS at h hs
  split at h
  · cases h
  · rename_i h1
    rw [if_neg h1] at hs
    split at h
    · cases h
    · rename_i h2
      rw [if_neg h2] at hs
      split at h
      · rename_i h3
        rw [if_pos h3] at hs
        split at h
        · rename_i h4
          rw [if_pos h4] at hs
          have hc := read_count _ _ _ h3
          rcases hc.2 with hb | hb
          · have h5 : cntR zeroR = 0 := rfl
            rw [h5, Nat.zero_add] at hc
            rw [← hc.1]
            simp only [sameS, Bool.and_eq_true] at hs
            have e1 := sameCs_eq _ _ hs.1.2
            have e2 := sameTs_cnt _ _ hs.2
            unfold cntR
            rw [if_pos hb, e1, e2]
          · exact absurd hb h2
        · rename_i h4; exact absurd h h4
      · rename_i h3; exact absurd h h3
theorem lines_cnt (ts : List TaskD) : (ts.flatMap taskLs).length = cntT ts := by
  induction ts with
  | nil => rfl
  | cons t r ih =>
    rw [List.flatMap_cons, List.length_append, ih]
    simp only [cntT, taskLs, List.length_cons, List.length_map]
    omega
theorem linesS_cnt (L : Int) (cs : List ChanD) (ts : List TaskD) : (linesS L cs ts).length = 1 + cs.length + cntT ts := by
  unfold linesS
  rw [List.length_cons, List.length_append, List.length_map, lines_cnt]
  omega
/-- Whole lines, and what is behind them. -/
theorem lines_behind : ∀ (ls : List (List UInt8)) (r : List UInt8), (∀ l ∈ ls, ∀ c ∈ l, c ≠ 10) → linesOf (putL ls ++ r) = ls ++ linesOf r
  | [], r, _ => rfl
  | l :: t, r, h => by
    have ih := lines_behind t r (fun x hx => h x (by simp [hx]))
    unfold linesOf at ih ⊢
    rw [putL_cons, List.append_assoc, List.append_assoc, List.singleton_append, linesGo_line l [] _ (h l (by simp)), ih]
    rfl
theorem linesGo_long : ∀ (r cur : List UInt8), ∀ x ∈ linesGo cur r, x.length ≤ cur.length + r.length
  | [], cur, x, hx => by simp [linesGo] at hx
  | c :: r, cur, x, hx => by
    rw [linesGo] at hx
    split at hx
    · rw [List.mem_cons] at hx
      rcases hx with rfl | hx
      · simp
      · have := linesGo_long r [] x hx
        simp at this ⊢
        omega
    · have := linesGo_long r (cur ++ [c]) x hx
      simp at this ⊢
      omega
theorem linesOf_some (m : List UInt8) : 0 < (linesOf (m ++ [10])).length := by
  have h : ∀ (m cur : List UInt8), 0 < (linesGo cur (m ++ [10])).length := by
    intro m
    induction m with
    | nil => intro cur; simp [linesGo]
    | cons c r ih =>
      intro cur
      rw [List.cons_append, linesGo]
      split
      · simp
      · exact ih _
  exact h m []
end Go.Proofs.YtolljdomnohmdaaGreatDoor
namespace Go.Proofs.YtolljdomnohmdaaGreatDoor
open Go.RowKit

/-- How many bytes 0A. -/
def cntL : List UInt8 → Nat
  | [] => 0
  | c :: r => (if c = 10 then 1 else 0) + cntL r
theorem linesGo_cnt : ∀ (r cur : List UInt8), (linesGo cur r).length = cntL r
  | [], cur => rfl
  | c :: r, cur => by
    rw [linesGo, cntL]
    split
    · rw [List.length_cons, linesGo_cnt r]; omega
    · rw [linesGo_cnt r]; omega
theorem linesOf_cnt (l : List UInt8) : (linesOf l).length = cntL l := linesGo_cnt l []
theorem cntL_app : ∀ (a b : List UInt8), cntL (a ++ b) = cntL a + cntL b
  | [], b => by simp [cntL]
  | c :: r, b => by
    have ih := cntL_app r b
    simp only [List.cons_append, cntL, ih]
    omega
theorem cntL_next {l : List UInt8} {k : Nat} {c : UInt8} (h : l[k]? = some c) : cntL (l.take (k + 1)) = cntL (l.take k) + (if c = 10 then 1 else 0) := by
  rw [List.take_add_one, h, cntL_app]
  simp [cntL]
theorem cntL_take (l : List UInt8) {a b : Nat} (h : a ≤ b) : cntL (l.take a) ≤ cntL (l.take b) := by
  have h1 := List.take_append_drop a (l.take b)
  rw [List.take_take, Nat.min_eq_left h] at h1
  have h2 := congrArg cntL h1
  rw [cntL_app] at h2
  omega
theorem cntL_all (l : List UInt8) : cntL (l.take l.length) = cntL l := by rw [List.take_length]
/-- A front has no lines but those of the whole. -/
theorem front_lines : ∀ (l : List UInt8) (k : Nat) (cur x : List UInt8), x ∈ linesGo cur (l.take k) → x ∈ linesGo cur l
  | [], k, cur, x, h => by simpa using h
  | c :: r, 0, cur, x, h => by simp [linesGo] at h
  | c :: r, k + 1, cur, x, h => by
    rw [List.take_succ_cons, linesGo] at h
    rw [linesGo]
    split at h
    · rename_i hc
      rw [if_pos hc]
      rcases List.mem_cons.1 h with rfl | h
      · exact List.mem_cons_self ..
      · exact List.mem_cons_of_mem _ (front_lines r k [] x h)
    · rename_i hc
      rw [if_neg hc]
      exact front_lines r k _ x h
theorem parse_set {l : List UInt8} (h : (parseS l).2.2 = 0) : (checkS (parseS l).1.L (parseS l).1.cs (parseS l).1.ts).2 = 0 := by
  unfold parseS at h ⊢
  split at h
  · cases h
  · rename_i h1
    rw [if_neg h1]
    split at h
    · cases h
    · rename_i h2
      rw [if_neg h2]
      split at h
      · rename_i h3
        rw [if_pos h3]
        split at h
        · rename_i h4
          rw [if_pos h4]
          exact h4
        · rename_i h4; exact absurd h h4
      · rename_i h3; exact absurd h h3
/-- What is taken is no greater than any machine holds. -/
theorem setok_ts {L : Int} {cs : List ChanD} {ts : List TaskD} (h : SetOk L cs ts) : TsOk ts := fun t ht => by
  obtain ⟨h1, h2, _⟩ := taken_prog (h.pg t ht)
  exact ⟨by have := (h.nm t ht).1; omega, by omega, fun o ho => by have := taken_cases (h2 o ho); omega⟩
theorem cnt_textS {L : Int} {cs : List ChanD} {ts : List TaskD} (h : SetOk L cs ts) : cntL (textS L cs ts) = 1 + cs.length + cntT ts := by
  rw [← linesOf_cnt, linesOf_textS h, linesS_cnt]
theorem other_set {l : List UInt8} {L : Int} {cs : List ChanD} {ts : List TaskD} (h : cntL l ≠ 1 + cs.length + cntT ts) (h0 : (parseS l).2.2 = 0) : sameS (parseS l).1.L (parseS l).1.cs (parseS l).1.ts L cs ts = false := by
  cases hs : sameS (parseS l).1.L (parseS l).1.cs (parseS l).1.ts L cs ts with
  | false => rfl
  | true =>
    have := parse_count h0 hs
    rw [linesOf_cnt] at this
    exact absurd this h
/-- The lines behind a printed set. -/
theorem behind_lines {L : Int} {cs : List ChanD} {ts : List TaskD} (h : SetOk L cs ts) (hi : ∀ t ∈ ts, ∀ o ∈ t.prog, In64 o) {m : List UInt8} (hm : m.length ≤ 100) : ∀ x ∈ linesOf (textS L cs ts ++ (m ++ [10])), x.length ≤ 1000 := by
  intro x hx
  rw [textS_put, lines_behind _ _ (linesS_bytes h), List.mem_append] at hx
  rcases hx with hx | hx
  · exact lines_long h hi x hx
  · have := linesGo_long (m ++ [10]) [] x hx
    simp at this
    omega
theorem behind_few {L : Int} {cs : List ChanD} {ts : List TaskD} (h : SetOk L cs ts) {m : List UInt8} (hm : m.length ≤ 100) : (linesOf (textS L cs ts ++ (m ++ [10]))).length ≤ 100000 ∧ cntL (textS L cs ts ++ (m ++ [10])) ≠ 1 + cs.length + cntT ts := by
  have h1 : ∀ l : List UInt8, cntL l ≤ l.length := by
    intro l
    induction l with
    | nil => simp [cntL]
    | cons c r ih => simp only [cntL, List.length_cons]; split <;> omega
  have h2 := h1 m
  have h3 := lines_many ts (fun t ht => (taken_prog (h.pg t ht)).1)
  have h4 := h.nc
  have h5 := h.nt.2
  have h6 : cntL (textS L cs ts) = 1 + cs.length + cntT ts := cnt_textS h
  have h7 : (ts.flatMap taskLs).length = cntT ts := lines_cnt ts
  rw [linesOf_cnt, cntL_app, cntL_app, h6]
  have h8 : cntL [10] = 1 := rfl
  rw [h8]
  have h9 : ts.length * 49 ≤ 12 * 49 := Nat.mul_le_mul_right _ h5
  omega
theorem putL_len : ∀ ls : List (List UInt8), (∀ x ∈ ls, x.length ≤ 1000) → (putL ls).length ≤ ls.length * 1001
  | [], _ => by simp [putL]
  | x :: r, h => by
    have ih := putL_len r (fun y hy => h y (List.mem_cons_of_mem _ hy))
    have h1 := h x (List.mem_cons_self ..)
    rw [putL_cons]
    simp only [List.length_append, List.length_cons, List.length_nil]
    omega
theorem textS_len2 {L : Int} {cs : List ChanD} {ts : List TaskD} (h : SetOk L cs ts) (hi : ∀ t ∈ ts, ∀ o ∈ t.prog, In64 o) : (textS L cs ts).length ≤ 900000 := by
  have h1 := putL_len _ (lines_long h hi)
  have h3 := lines_many ts (fun t ht => (taken_prog (h.pg t ht)).1)
  have h4 := h.nc
  have h5 := h.nt.2
  have h7 : (ts.flatMap taskLs).length = cntT ts := lines_cnt ts
  have h9 : ts.length * 49 ≤ 12 * 49 := Nat.mul_le_mul_right _ h5
  rw [linesS_cnt] at h1
  rw [textS_put]
  omega
end Go.Proofs.YtolljdomnohmdaaGreatDoor
