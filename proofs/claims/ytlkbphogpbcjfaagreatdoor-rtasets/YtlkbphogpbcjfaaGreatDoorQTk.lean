/- Waits, of the program and of the reference. isAboveAll, isLast, isOpen; a program's state in memory. takes. takes: Loop, End, the others; all of it. -/
import Derived.Test.YtlkbphogpbcjfaaGreatDoorQCk
import Derived.Test.YtlkbphogpbcjfaaGreatDoorQbase
namespace Go.Proofs.YtlkbphogpbcjfaaGreatDoor
open Go.RowKit

theorem waits_none (k n v wt : Int) (a : Option Addr) (m c : Nat) (l : List CaseD) (w : World) (hk : isKindB k = false) :
    Calls Tryz.prog 122 #[.agg #[.int .i64 k, .int .i64 n, .int .i64 v, .int .i64 wt, .slice a m c]] w fun e w' => e = .returned (.bool (waitsD ⟨k, n, v, wt, l⟩)) ∧ Kept w w' := by
  have HC : Hid (waitsD ⟨k, n, v, wt, l⟩ = false) := waits_no hk
  have hi := isKind_any k
  rw [hk] at hi
  go_enter Tryz.func122, Tryz.ntmps122
  go_wp2_with fail
  refine (hi _).mono ?_
  rintro e w1 ⟨rfl, hw⟩
  subst w1
  go_wp2_with fail
  go_ret
  rw [HC.out]
  exact ⟨rfl, (Kept.refl w).alloc _⟩
theorem waits_any (k n v wt : Int) (a : Option Addr) (m c : Nat) (l : List CaseD) (w : World) (hr : Rdy w) :
    Calls Tryz.prog 122 #[.agg #[.int .i64 k, .int .i64 n, .int .i64 v, .int .i64 wt, .slice a m c]] w fun e w' => e = .returned (.bool (waitsD ⟨k, n, v, wt, l⟩)) ∧ Kept w w' := by
  cases hk : isKindB k with
  | false => exact waits_none k n v wt a m c l w hk
  | true =>
    have hi := isKind_any k
    rw [hk] at hi
    have hlt := hr.lt
    have HR : Hid (Rdy w) := hr
    clear hr
    rcases kind_cases hk with rfl | rfl | rfl | rfl | rfl | rfl | rfl | rfl | rfl
    · obtain ⟨_, _, _, g3, _⟩ := HR.out.k1
      clear hk
      go_enter Tryz.func122, Tryz.ntmps122
      go_wp2_with fail
      refine (hi _).mono ?_
      rintro e w1 ⟨rfl, hw⟩
      subst w1
      go_wp2_with fail
      go_ret
      exact ⟨rfl, (Kept.refl w).alloc _⟩
    · obtain ⟨_, _, _, g3, _⟩ := HR.out.k2
      clear hk
      go_enter Tryz.func122, Tryz.ntmps122
      go_wp2_with fail
      refine (hi _).mono ?_
      rintro e w1 ⟨rfl, hw⟩
      subst w1
      go_wp2_with fail
      go_ret
      exact ⟨rfl, (Kept.refl w).alloc _⟩
    · obtain ⟨_, _, _, g3, _⟩ := HR.out.k3
      clear hk
      go_enter Tryz.func122, Tryz.ntmps122
      go_wp2_with fail
      refine (hi _).mono ?_
      rintro e w1 ⟨rfl, hw⟩
      subst w1
      go_wp2_with fail
      go_ret
      exact ⟨rfl, (Kept.refl w).alloc _⟩
    · obtain ⟨_, _, _, g3, _⟩ := HR.out.k4
      clear hk
      go_enter Tryz.func122, Tryz.ntmps122
      go_wp2_with fail
      refine (hi _).mono ?_
      rintro e w1 ⟨rfl, hw⟩
      subst w1
      go_wp2_with fail
      go_ret
      exact ⟨rfl, (Kept.refl w).alloc _⟩
    · obtain ⟨_, _, _, g3, _⟩ := HR.out.k5
      clear hk
      go_enter Tryz.func122, Tryz.ntmps122
      go_wp2_with fail
      refine (hi _).mono ?_
      rintro e w1 ⟨rfl, hw⟩
      subst w1
      go_wp2_with fail
      go_ret
      exact ⟨rfl, (Kept.refl w).alloc _⟩
    · obtain ⟨_, _, _, g3, _⟩ := HR.out.k6
      clear hk
      go_enter Tryz.func122, Tryz.ntmps122
      go_wp2_with fail
      refine (hi _).mono ?_
      rintro e w1 ⟨rfl, hw⟩
      subst w1
      go_wp2_with fail
      go_ret
      exact ⟨rfl, (Kept.refl w).alloc _⟩
    · obtain ⟨_, _, _, g3, _⟩ := HR.out.k7
      clear hk
      go_enter Tryz.func122, Tryz.ntmps122
      go_wp2_with fail
      refine (hi _).mono ?_
      rintro e w1 ⟨rfl, hw⟩
      subst w1
      go_wp2_with fail
      go_ret
      exact ⟨rfl, (Kept.refl w).alloc _⟩
    · obtain ⟨_, _, _, g3, _⟩ := HR.out.k8
      clear hk
      go_enter Tryz.func122, Tryz.ntmps122
      go_wp2_with fail
      refine (hi _).mono ?_
      rintro e w1 ⟨rfl, hw⟩
      subst w1
      go_wp2_with fail
      go_ret
      exact ⟨rfl, (Kept.refl w).alloc _⟩
    · obtain ⟨_, _, _, g3, _⟩ := HR.out.k9
      clear hk
      go_enter Tryz.func122, Tryz.ntmps122
      go_wp2_with fail
      refine (hi _).mono ?_
      rintro e w1 ⟨rfl, hw⟩
      subst w1
      go_wp2_with fail
      go_ret
      exact ⟨rfl, (Kept.refl w).alloc _⟩
end Go.Proofs.YtlkbphogpbcjfaaGreatDoor
namespace Go.Proofs.YtlkbphogpbcjfaaGreatDoor
open Go.RowKit

theorem above_any (m n : Nat) (hm : m < 256) (hn : n ≤ 7) (w : World) : Calls Tryz.prog 120 #[.int .u64 m, .int .i64 n] w fun e w' => e = .returned (.bool (decide (m < 2 ^ n))) ∧ w' = w := by
  have hc : n = 0 ∨ n = 1 ∨ n = 2 ∨ n = 3 ∨ n = 4 ∨ n = 5 ∨ n = 6 ∨ n = 7 := by omega
  rcases hc with rfl | rfl | rfl | rfl | rfl | rfl | rfl | rfl
  · go_enter Tryz.func120, Tryz.ntmps120
    go_wp2_with fail
    go_ret
    refine ⟨congrArg (fun b => Ending.returned (Value.bool b)) (show ((m : Int) == 0) = decide (m < 2 ^ 0) from ?_), rfl⟩
    rw [Bool.eq_iff_iff]
    simp
  · go_enter Tryz.func120, Tryz.ntmps120
    go_wp2_with fail
    go_ret
    refine ⟨congrArg (fun b => Ending.returned (Value.bool b)) (show ((m : Int) / 2 == 0) = decide (m < 2 ^ 1) from ?_), rfl⟩
    rw [Bool.eq_iff_iff]
    simp
    omega
  · go_enter Tryz.func120, Tryz.ntmps120
    go_wp2_with fail
    go_ret
    refine ⟨congrArg (fun b => Ending.returned (Value.bool b)) (show ((m : Int) / 4 == 0) = decide (m < 2 ^ 2) from ?_), rfl⟩
    rw [Bool.eq_iff_iff]
    simp
    omega
  · go_enter Tryz.func120, Tryz.ntmps120
    go_wp2_with fail
    go_ret
    refine ⟨congrArg (fun b => Ending.returned (Value.bool b)) (show ((m : Int) / 8 == 0) = decide (m < 2 ^ 3) from ?_), rfl⟩
    rw [Bool.eq_iff_iff]
    simp
    omega
  · go_enter Tryz.func120, Tryz.ntmps120
    go_wp2_with fail
    go_ret
    refine ⟨congrArg (fun b => Ending.returned (Value.bool b)) (show ((m : Int) / 16 == 0) = decide (m < 2 ^ 4) from ?_), rfl⟩
    rw [Bool.eq_iff_iff]
    simp
    omega
  · go_enter Tryz.func120, Tryz.ntmps120
    go_wp2_with fail
    go_ret
    refine ⟨congrArg (fun b => Ending.returned (Value.bool b)) (show ((m : Int) / 32 == 0) = decide (m < 2 ^ 5) from ?_), rfl⟩
    rw [Bool.eq_iff_iff]
    simp
    omega
  · go_enter Tryz.func120, Tryz.ntmps120
    go_wp2_with fail
    go_ret
    refine ⟨congrArg (fun b => Ending.returned (Value.bool b)) (show ((m : Int) / 64 == 0) = decide (m < 2 ^ 6) from ?_), rfl⟩
    rw [Bool.eq_iff_iff]
    simp
    omega
  · go_enter Tryz.func120, Tryz.ntmps120
    go_wp2_with fail
    go_ret
    refine ⟨congrArg (fun b => Ending.returned (Value.bool b)) (show ((m : Int) / 128 == 0) = decide (m < 2 ^ 7) from ?_), rfl⟩
    rw [Bool.eq_iff_iff]
    simp
    omega
theorem last_any (m n : Nat) (hm : m < 256) (hn : n ≤ 7) (w : World) : Calls Tryz.prog 121 #[.int .u64 m, .int .i64 n] w fun e w' => e = .returned (.bool (decide (2 ^ n ≤ m ∧ m < 2 * 2 ^ n))) ∧ w' = w := by
  have hc : n = 0 ∨ n = 1 ∨ n = 2 ∨ n = 3 ∨ n = 4 ∨ n = 5 ∨ n = 6 ∨ n = 7 := by omega
  rcases hc with rfl | rfl | rfl | rfl | rfl | rfl | rfl | rfl
  · go_enter Tryz.func121, Tryz.ntmps121
    go_wp2_with fail
    go_ret
    refine ⟨congrArg (fun b => Ending.returned (Value.bool b)) (show ((m : Int) == 1) = decide (2 ^ 0 ≤ m ∧ m < 2 * 2 ^ 0) from ?_), rfl⟩
    rw [Bool.eq_iff_iff]
    simp
    omega
  · go_enter Tryz.func121, Tryz.ntmps121
    go_wp2_with fail
    go_ret
    refine ⟨congrArg (fun b => Ending.returned (Value.bool b)) (show ((m : Int) / 2 == 1) = decide (2 ^ 1 ≤ m ∧ m < 2 * 2 ^ 1) from ?_), rfl⟩
    rw [Bool.eq_iff_iff]
    simp
    omega
  · go_enter Tryz.func121, Tryz.ntmps121
    go_wp2_with fail
    go_ret
    refine ⟨congrArg (fun b => Ending.returned (Value.bool b)) (show ((m : Int) / 4 == 1) = decide (2 ^ 2 ≤ m ∧ m < 2 * 2 ^ 2) from ?_), rfl⟩
    rw [Bool.eq_iff_iff]
    simp
    omega
  · go_enter Tryz.func121, Tryz.ntmps121
    go_wp2_with fail
    go_ret
    refine ⟨congrArg (fun b => Ending.returned (Value.bool b)) (show ((m : Int) / 8 == 1) = decide (2 ^ 3 ≤ m ∧ m < 2 * 2 ^ 3) from ?_), rfl⟩
    rw [Bool.eq_iff_iff]
    simp
    omega
  · go_enter Tryz.func121, Tryz.ntmps121
    go_wp2_with fail
    go_ret
    refine ⟨congrArg (fun b => Ending.returned (Value.bool b)) (show ((m : Int) / 16 == 1) = decide (2 ^ 4 ≤ m ∧ m < 2 * 2 ^ 4) from ?_), rfl⟩
    rw [Bool.eq_iff_iff]
    simp
    omega
  · go_enter Tryz.func121, Tryz.ntmps121
    go_wp2_with fail
    go_ret
    refine ⟨congrArg (fun b => Ending.returned (Value.bool b)) (show ((m : Int) / 32 == 1) = decide (2 ^ 5 ≤ m ∧ m < 2 * 2 ^ 5) from ?_), rfl⟩
    rw [Bool.eq_iff_iff]
    simp
    omega
  · go_enter Tryz.func121, Tryz.ntmps121
    go_wp2_with fail
    go_ret
    refine ⟨congrArg (fun b => Ending.returned (Value.bool b)) (show ((m : Int) / 64 == 1) = decide (2 ^ 6 ≤ m ∧ m < 2 * 2 ^ 6) from ?_), rfl⟩
    rw [Bool.eq_iff_iff]
    simp
    omega
  · go_enter Tryz.func121, Tryz.ntmps121
    go_wp2_with fail
    go_ret
    refine ⟨congrArg (fun b => Ending.returned (Value.bool b)) (show ((m : Int) / 128 == 1) = decide (2 ^ 7 ≤ m ∧ m < 2 * 2 ^ 7) from ?_), rfl⟩
    rw [Bool.eq_iff_iff]
    simp
    omega

/-- A row of locks that the call owns. -/
def LRow (B : Nat) (w : World) (v : Value) (l : List Nat) : Prop := w.ownsRow B 157 1 v l.length (l.map lockV)
theorem LRow.nil (B : Nat) (w : World) : LRow B w (.slice Option.none 0 0) [] := World.ownsRow_nil _ _ _ _
theorem LRow.turns {S : Nat → Prop} {B : Nat} {w w' : World} {v : Value} {l : List Nat} (h : LRow B w v l) (t : Turns S w w') (hv : ∀ k, v.ownBlock = some k → ¬ S k) : LRow B w' v l := owns_turns h t hv
theorem LRow.kept {B : Nat} {w w' : World} {v : Value} {l : List Nat} (h : LRow B w v l) (t : Kept w w') : LRow B w' v l := own_kept h t
theorem LRow.form {B : Nat} {w : World} {v : Value} {l : List Nat} (h : LRow B w v l) : ∃ a c, v = .slice a l.length c := by
  rcases h.2 with ⟨h1, h2⟩ | ⟨g, cap, cur, h1, _⟩
  · exact ⟨none, 0, by rw [h1, h2]⟩
  · exact ⟨_, _, h1⟩
/-- A state: the locks held, those that each open Loop began with. -/
structure StP (B : Nat) (w : World) (sb : Nat) (lv : Value) (m : Nat) (lp : List Nat) : Prop where
  box : Box B w 160 sb [.int .u64 m, lv]
  row : LRow B w lv lp.reverse
  far : ∀ q, lv.ownBlock = some q → q ≠ sb
theorem StP.kept {B : Nat} {w w' : World} {sb : Nat} {lv : Value} {m : Nat} {lp : List Nat} (h : StP B w sb lv m lp) (t : Kept w w') : StP B w' sb lv m lp := ⟨h.box.kept t, h.row.kept t, h.far⟩

theorem open_any (B sb m : Nat) (lv : Value) (lp : List Nat) (w : World) (hs : StP B w sb lv m lp) : Calls Tryz.prog 111 #[.pointer (some ⟨sb, 0, none⟩)] w fun e w' => e = .returned (.bool (decide (m ≠ 0 ∨ lp ≠ []))) ∧ w' = w := by
  have c0 : w.cell? ⟨sb, 0, none⟩ = some (.int .u64 m) := hs.box.cell 0 (by simp)
  have c1 : w.cell? ⟨sb, 1, none⟩ = some lv := hs.box.cell 1 (by simp)
  obtain ⟨a, c, rfl⟩ := hs.row.form
  rw [List.length_reverse] at c1
  clear hs
  by_cases hm : m = 0
  · subst hm
    have HD : Hid (decide ((0 : Nat) ≠ 0 ∨ lp ≠ []) = decide (0 < lp.length)) := by
      show _ = _
      rw [decide_eq_decide]
      cases lp <;> simp
    go_enter Tryz.func111, Tryz.ntmps111
    go_wp2_with fail
    go_ret
    rw [HD.out]
    exact ⟨rfl, rfl⟩
  · have hne : ((m : Int) != 0) = true := by simp [hm]
    have HD : Hid (decide (m ≠ 0 ∨ lp ≠ []) = true) := by show _ = _; simp [hm]
    go_enter Tryz.func111, Tryz.ntmps111
    go_wp2_with fail
    go_ret
    rw [HD.out]
    exact ⟨rfl, rfl⟩
end Go.Proofs.YtlkbphogpbcjfaaGreatDoor
namespace Go.Proofs.YtlkbphogpbcjfaaGreatDoor
open Go.RowKit

/-- What takes leaves. -/
def TakPost (B sb m : Nat) (lp : List Nat) (o : OpD) (w : World) (e : Ending) (w' : World) : Prop :=
  Turns (fun k => B ≤ k) w w' ∧ ((takeM m lp o = none ∧ e = .returned (.bool false)) ∨ ∃ m' lp' lv', takeM m lp o = some (m', lp') ∧ e = .returned (.bool true) ∧ StP B w' sb lv' m' lp')
/-- The state behind a store of the locks held. -/
theorem StP.hold {B : Nat} {w : World} {sb : Nat} {lv : Value} {m m' : Nat} {lp : List Nat} (h : StP B w sb lv m lp) (o : Obj) : StP B ((w.setCell ⟨sb, 0, none⟩ (.int .u64 m')).alloc o).drew.drew sb lv m' lp := by
  have t := turn_set w sb 0 (.int .u64 m')
  have b : Box B (w.setCell ⟨sb, 0, none⟩ (.int .u64 m')) 160 sb [.int .u64 m', lv] := h.box.set 0 _
  have r := h.row.turns t (fun q hq e => h.far q hq e)
  have k : Kept (w.setCell ⟨sb, 0, none⟩ (.int .u64 m')) ((w.setCell ⟨sb, 0, none⟩ (.int .u64 m')).alloc o).drew.drew := (((Kept.refl _).alloc o).drew).drew
  exact ⟨b.kept k, r.kept k, h.far⟩
/-- One lock behind a row of locks. -/
theorem step_append_lock (w : World) {ops : Array Oper} {o : Oper} {a : Act} {K : Act → World → Prop} {Q : Exit → Act → World → Prop} {E : Prop} (hgd : o.guard = none) (s x : Operand)
    (ho : o.op = .call { callee := .builtin .append, args := #[s, x], argTypes := #[158, 158] })
    (base : Nat) (v1 : Value) (l1 : List Nat) (y : Nat) (W : World) (hw1 : w = W.alloc (.cells #[.int .u64 y] 157)) (hs : a.eval s = v1) (nb : Nat) (hnb : nb = W.heap.size) (hx : a.eval x = .slice (some ⟨nb, 0, none⟩) 1 1) (h1 : LRow base W v1 l1) (hl : l1.length ≤ 1000000) (hB : base ≤ W.heap.size)
    (h : ∀ g cap w', LRow base w' (.slice (some ⟨g, 0, none⟩) (l1.length + 1) cap) (l1 ++ [y]) → w.grownBy w' v1.ownBlock → (v1.ownBlock = some g ∨ W.heap.size < g) → K (a.put o.dst (.slice (some ⟨g, 0, none⟩) (l1.length + 1) cap)) w') :
    if Region.wanted o (yielded ops a.tmps) = true then Oper.wp Tryz.prog o a w K Q else E := by
  have hw : Region.wanted o (yielded ops a.tmps) = true := by simp [Region.wanted, hgd]
  rw [if_pos hw]
  subst hw1
  subst hnb
  obtain ⟨i, hi, hz0, hz1, hz2⟩ := info_parts (show (Tryz.prog.info? 157).map (fun i => (i.zero, i.size, i.bytes)) = some (some (.int .u64 0), 1, 8) by kernel_rfl)
  have hc : ∀ j u, ([y].map lockV)[j]? = some u → (W.alloc (.cells #[.int .u64 y] 157)).cell? (Addr.add ⟨W.heap.size, 0, none⟩ j) = some u := by
    intro j u hu
    rw [Addr.add_lit, Nat.zero_add, World.cell?_alloc_at _ _ _ _ rfl]
    simpa [lockV] using hu
  have h1' : (W.alloc (.cells #[.int .u64 y] 157)).ownsRow base 157 1 v1 l1.length (l1.map lockV) := World.ownsRow.alloc h1 _
  have hB' := le_alloc (.cells #[.int .u64 y] 157) hB
  have ones : ∀ u ∈ [y].map lockV, u.oneCell' = true := by
    intro u hu
    simp only [List.map_cons, List.map_nil, List.mem_singleton] at hu
    subst hu
    rfl
  obtain ⟨v', w', hr, k1, k2, k3, k4⟩ := run_append_own_at (P := Tryz.prog) (W.alloc (.cells #[.int .u64 y] 157)) base 158 o.type 157 i _ 1 8 Tryz.underlying158 hi hz0 hz1 hz2 rfl (by omega) _ l1.length (l1.map lockV) h1' ⟨W.heap.size, 0, none⟩ 1 1 ([y].map lockV) (by simp) hc ones (by unfold maxLen; omega) (by omega) hB'
  obtain ⟨g, cap, rfl⟩ := own_form k1 (fun e => by have := k3.1 e; have := this.2; omega)
  unfold Oper.wp
  simp [execOp, ho, resolve, invoke, builtin, hs, hx, hr, Result.andThen]
  refine h g cap w' ?_ k2 ?_
  · unfold LRow
    rw [List.length_append, List.map_append]
    exact k1
  · rcases k4 with k4 | k4
    · exact .inl k4.symm
    · right; simp [Value.ownBlock] at k4; omega

set_option maxHeartbeats 2000000 in
theorem takes_lock0 (B sb m : Nat) (lv : Value) (lp : List Nat) (a : Option Addr) (c : Nat) (v wt : Int) (l : List CaseD) (w : World) (hs : StP B w sb lv m lp) (hm : m < 256) :
    Calls Tryz.prog 110 #[.pointer (some ⟨sb, 0, none⟩), .agg #[.int .i64 2, .int .i64 0, .int .i64 v, .int .i64 wt, .slice a l.length c]] w (TakPost B sb m lp ⟨2, 0, v, wt, l⟩ w) := by
  have c0 : w.cell? ⟨sb, 0, none⟩ = some (.int .u64 m) := hs.box.cell 0 (by simp)
  have f0 := hs.box.frozen 0
  have lb := hs.box.lt.2
  have lB := hs.box.lt.1
  by_cases h2 : m < 2 ^ 0
  · have hor : bits BinOp.or IntKind.u64 (m : Int) 1 = (m : Int) + 1 := bits_or ⟨0, by omega⟩ ⟨m, hm⟩ h2
    have HT : Hid (takeM m lp ⟨2, 0, v, wt, l⟩ = some (m + 1, lp)) := by show _ = _; unfold takeM; rw [if_pos rfl]; exact if_pos h2
    go_enter Tryz.func110, Tryz.ntmps110
    go_wp2_with fail
    go_region_held3 (fun w' => w'.cell? ⟨sb, 0, none⟩ = some (.int .u64 m) ∧ w'.cell? ⟨w.heap.size, 1, none⟩ = some (.int .i64 0)) (go_keep) (first | (go_at_call 120; refine (above_any m 0 hm (by omega) _).mono ?_; rintro e w4 ⟨rfl, hw4⟩; subst w4; rw [decide_eq_true h2]) | fail)
    go_wp2_with fail
    go_region
    go_wp2_with fail
    go_ret
    exact ⟨hold_turns lB _ _, .inr ⟨_, _, _, HT.out, rfl, hs.hold _⟩⟩
  · have HT : Hid (takeM m lp ⟨2, 0, v, wt, l⟩ = none) := by show _ = _; unfold takeM; rw [if_pos rfl]; exact if_neg h2
    go_enter Tryz.func110, Tryz.ntmps110
    go_wp2_with fail
    go_region_held3 (fun w' => w'.cell? ⟨sb, 0, none⟩ = some (.int .u64 m) ∧ w'.cell? ⟨w.heap.size, 1, none⟩ = some (.int .i64 0)) (go_keep) (first | (go_at_call 120; refine (above_any m 0 hm (by omega) _).mono ?_; rintro e w4 ⟨rfl, hw4⟩; subst w4; rw [decide_eq_false h2]) | fail)
    go_wp2_with fail
    go_ret
    exact ⟨turns_B (((Kept.refl w).alloc _).drew), .inl ⟨HT.out, rfl⟩⟩
set_option maxHeartbeats 2000000 in
theorem takes_unlock0 (B sb m : Nat) (lv : Value) (lp : List Nat) (a : Option Addr) (c : Nat) (v wt : Int) (l : List CaseD) (w : World) (hs : StP B w sb lv m lp) (hm : m < 256) :
    Calls Tryz.prog 110 #[.pointer (some ⟨sb, 0, none⟩), .agg #[.int .i64 3, .int .i64 0, .int .i64 v, .int .i64 wt, .slice a l.length c]] w (TakPost B sb m lp ⟨3, 0, v, wt, l⟩ w) := by
  have c0 : w.cell? ⟨sb, 0, none⟩ = some (.int .u64 m) := hs.box.cell 0 (by simp)
  have f0 := hs.box.frozen 0
  have lb := hs.box.lt.2
  have lB := hs.box.lt.1
  by_cases h2 : 2 ^ 0 ≤ m ∧ m < 2 * 2 ^ 0
  · have hor : bits BinOp.andNot IntKind.u64 (m : Int) 1 = ((m - 1 : Nat) : Int) := (bits_not ⟨0, by omega⟩ ⟨m, hm⟩ h2.1).elim id (fun h => absurd h2.2 (by simp only at h; omega))
    have HT : Hid (takeM m lp ⟨3, 0, v, wt, l⟩ = some (m - 1, lp)) := by show _ = _; unfold takeM; rw [if_neg (by simp), if_pos rfl]; exact if_pos h2
    go_enter Tryz.func110, Tryz.ntmps110
    go_wp2_with fail
    go_region_held3 (fun w' => w'.cell? ⟨sb, 0, none⟩ = some (.int .u64 m) ∧ w'.cell? ⟨w.heap.size, 1, none⟩ = some (.int .i64 0)) (go_keep) (first | (go_at_call 121; refine (last_any m 0 hm (by omega) _).mono ?_; rintro e w4 ⟨rfl, hw4⟩; subst w4; rw [decide_eq_true h2]) | fail)
    go_wp2_with fail
    go_region
    go_wp2_with fail
    go_ret
    exact ⟨hold_turns lB _ _, .inr ⟨_, _, _, HT.out, rfl, hs.hold _⟩⟩
  · have HT : Hid (takeM m lp ⟨3, 0, v, wt, l⟩ = none) := by show _ = _; unfold takeM; rw [if_neg (by simp), if_pos rfl]; exact if_neg h2
    go_enter Tryz.func110, Tryz.ntmps110
    go_wp2_with fail
    go_region_held3 (fun w' => w'.cell? ⟨sb, 0, none⟩ = some (.int .u64 m) ∧ w'.cell? ⟨w.heap.size, 1, none⟩ = some (.int .i64 0)) (go_keep) (first | (go_at_call 121; refine (last_any m 0 hm (by omega) _).mono ?_; rintro e w4 ⟨rfl, hw4⟩; subst w4; rw [decide_eq_false h2]) | fail)
    go_wp2_with fail
    go_ret
    exact ⟨turns_B (((Kept.refl w).alloc _).drew), .inl ⟨HT.out, rfl⟩⟩
set_option maxHeartbeats 2000000 in
theorem takes_lock1 (B sb m : Nat) (lv : Value) (lp : List Nat) (a : Option Addr) (c : Nat) (v wt : Int) (l : List CaseD) (w : World) (hs : StP B w sb lv m lp) (hm : m < 256) :
    Calls Tryz.prog 110 #[.pointer (some ⟨sb, 0, none⟩), .agg #[.int .i64 2, .int .i64 1, .int .i64 v, .int .i64 wt, .slice a l.length c]] w (TakPost B sb m lp ⟨2, 1, v, wt, l⟩ w) := by
  have c0 : w.cell? ⟨sb, 0, none⟩ = some (.int .u64 m) := hs.box.cell 0 (by simp)
  have f0 := hs.box.frozen 0
  have lb := hs.box.lt.2
  have lB := hs.box.lt.1
  by_cases h2 : m < 2 ^ 1
  · have hor : bits BinOp.or IntKind.u64 (m : Int) 2 = (m : Int) + 2 := bits_or ⟨1, by omega⟩ ⟨m, hm⟩ h2
    have HT : Hid (takeM m lp ⟨2, 1, v, wt, l⟩ = some (m + 2, lp)) := by show _ = _; unfold takeM; rw [if_pos rfl]; exact if_pos h2
    go_enter Tryz.func110, Tryz.ntmps110
    go_wp2_with fail
    go_region_held3 (fun w' => w'.cell? ⟨sb, 0, none⟩ = some (.int .u64 m) ∧ w'.cell? ⟨w.heap.size, 1, none⟩ = some (.int .i64 1)) (go_keep) (first | (go_at_call 120; refine (above_any m 1 hm (by omega) _).mono ?_; rintro e w4 ⟨rfl, hw4⟩; subst w4; rw [decide_eq_true h2]) | fail)
    go_wp2_with fail
    go_region
    go_wp2_with fail
    go_ret
    exact ⟨hold_turns lB _ _, .inr ⟨_, _, _, HT.out, rfl, hs.hold _⟩⟩
  · have HT : Hid (takeM m lp ⟨2, 1, v, wt, l⟩ = none) := by show _ = _; unfold takeM; rw [if_pos rfl]; exact if_neg h2
    go_enter Tryz.func110, Tryz.ntmps110
    go_wp2_with fail
    go_region_held3 (fun w' => w'.cell? ⟨sb, 0, none⟩ = some (.int .u64 m) ∧ w'.cell? ⟨w.heap.size, 1, none⟩ = some (.int .i64 1)) (go_keep) (first | (go_at_call 120; refine (above_any m 1 hm (by omega) _).mono ?_; rintro e w4 ⟨rfl, hw4⟩; subst w4; rw [decide_eq_false h2]) | fail)
    go_wp2_with fail
    go_ret
    exact ⟨turns_B (((Kept.refl w).alloc _).drew), .inl ⟨HT.out, rfl⟩⟩
set_option maxHeartbeats 2000000 in
theorem takes_unlock1 (B sb m : Nat) (lv : Value) (lp : List Nat) (a : Option Addr) (c : Nat) (v wt : Int) (l : List CaseD) (w : World) (hs : StP B w sb lv m lp) (hm : m < 256) :
    Calls Tryz.prog 110 #[.pointer (some ⟨sb, 0, none⟩), .agg #[.int .i64 3, .int .i64 1, .int .i64 v, .int .i64 wt, .slice a l.length c]] w (TakPost B sb m lp ⟨3, 1, v, wt, l⟩ w) := by
  have c0 : w.cell? ⟨sb, 0, none⟩ = some (.int .u64 m) := hs.box.cell 0 (by simp)
  have f0 := hs.box.frozen 0
  have lb := hs.box.lt.2
  have lB := hs.box.lt.1
  by_cases h2 : 2 ^ 1 ≤ m ∧ m < 2 * 2 ^ 1
  · have hor : bits BinOp.andNot IntKind.u64 (m : Int) 2 = ((m - 2 : Nat) : Int) := (bits_not ⟨1, by omega⟩ ⟨m, hm⟩ h2.1).elim id (fun h => absurd h2.2 (by simp only at h; omega))
    have HT : Hid (takeM m lp ⟨3, 1, v, wt, l⟩ = some (m - 2, lp)) := by show _ = _; unfold takeM; rw [if_neg (by simp), if_pos rfl]; exact if_pos h2
    go_enter Tryz.func110, Tryz.ntmps110
    go_wp2_with fail
    go_region_held3 (fun w' => w'.cell? ⟨sb, 0, none⟩ = some (.int .u64 m) ∧ w'.cell? ⟨w.heap.size, 1, none⟩ = some (.int .i64 1)) (go_keep) (first | (go_at_call 121; refine (last_any m 1 hm (by omega) _).mono ?_; rintro e w4 ⟨rfl, hw4⟩; subst w4; rw [decide_eq_true h2]) | fail)
    go_wp2_with fail
    go_region
    go_wp2_with fail
    go_ret
    exact ⟨hold_turns lB _ _, .inr ⟨_, _, _, HT.out, rfl, hs.hold _⟩⟩
  · have HT : Hid (takeM m lp ⟨3, 1, v, wt, l⟩ = none) := by show _ = _; unfold takeM; rw [if_neg (by simp), if_pos rfl]; exact if_neg h2
    go_enter Tryz.func110, Tryz.ntmps110
    go_wp2_with fail
    go_region_held3 (fun w' => w'.cell? ⟨sb, 0, none⟩ = some (.int .u64 m) ∧ w'.cell? ⟨w.heap.size, 1, none⟩ = some (.int .i64 1)) (go_keep) (first | (go_at_call 121; refine (last_any m 1 hm (by omega) _).mono ?_; rintro e w4 ⟨rfl, hw4⟩; subst w4; rw [decide_eq_false h2]) | fail)
    go_wp2_with fail
    go_ret
    exact ⟨turns_B (((Kept.refl w).alloc _).drew), .inl ⟨HT.out, rfl⟩⟩
set_option maxHeartbeats 2000000 in
theorem takes_lock2 (B sb m : Nat) (lv : Value) (lp : List Nat) (a : Option Addr) (c : Nat) (v wt : Int) (l : List CaseD) (w : World) (hs : StP B w sb lv m lp) (hm : m < 256) :
    Calls Tryz.prog 110 #[.pointer (some ⟨sb, 0, none⟩), .agg #[.int .i64 2, .int .i64 2, .int .i64 v, .int .i64 wt, .slice a l.length c]] w (TakPost B sb m lp ⟨2, 2, v, wt, l⟩ w) := by
  have c0 : w.cell? ⟨sb, 0, none⟩ = some (.int .u64 m) := hs.box.cell 0 (by simp)
  have f0 := hs.box.frozen 0
  have lb := hs.box.lt.2
  have lB := hs.box.lt.1
  by_cases h2 : m < 2 ^ 2
  · have hor : bits BinOp.or IntKind.u64 (m : Int) 4 = (m : Int) + 4 := bits_or ⟨2, by omega⟩ ⟨m, hm⟩ h2
    have HT : Hid (takeM m lp ⟨2, 2, v, wt, l⟩ = some (m + 4, lp)) := by show _ = _; unfold takeM; rw [if_pos rfl]; exact if_pos h2
    go_enter Tryz.func110, Tryz.ntmps110
    go_wp2_with fail
    go_region_held3 (fun w' => w'.cell? ⟨sb, 0, none⟩ = some (.int .u64 m) ∧ w'.cell? ⟨w.heap.size, 1, none⟩ = some (.int .i64 2)) (go_keep) (first | (go_at_call 120; refine (above_any m 2 hm (by omega) _).mono ?_; rintro e w4 ⟨rfl, hw4⟩; subst w4; rw [decide_eq_true h2]) | fail)
    go_wp2_with fail
    go_region
    go_wp2_with fail
    go_ret
    exact ⟨hold_turns lB _ _, .inr ⟨_, _, _, HT.out, rfl, hs.hold _⟩⟩
  · have HT : Hid (takeM m lp ⟨2, 2, v, wt, l⟩ = none) := by show _ = _; unfold takeM; rw [if_pos rfl]; exact if_neg h2
    go_enter Tryz.func110, Tryz.ntmps110
    go_wp2_with fail
    go_region_held3 (fun w' => w'.cell? ⟨sb, 0, none⟩ = some (.int .u64 m) ∧ w'.cell? ⟨w.heap.size, 1, none⟩ = some (.int .i64 2)) (go_keep) (first | (go_at_call 120; refine (above_any m 2 hm (by omega) _).mono ?_; rintro e w4 ⟨rfl, hw4⟩; subst w4; rw [decide_eq_false h2]) | fail)
    go_wp2_with fail
    go_ret
    exact ⟨turns_B (((Kept.refl w).alloc _).drew), .inl ⟨HT.out, rfl⟩⟩
set_option maxHeartbeats 2000000 in
theorem takes_unlock2 (B sb m : Nat) (lv : Value) (lp : List Nat) (a : Option Addr) (c : Nat) (v wt : Int) (l : List CaseD) (w : World) (hs : StP B w sb lv m lp) (hm : m < 256) :
    Calls Tryz.prog 110 #[.pointer (some ⟨sb, 0, none⟩), .agg #[.int .i64 3, .int .i64 2, .int .i64 v, .int .i64 wt, .slice a l.length c]] w (TakPost B sb m lp ⟨3, 2, v, wt, l⟩ w) := by
  have c0 : w.cell? ⟨sb, 0, none⟩ = some (.int .u64 m) := hs.box.cell 0 (by simp)
  have f0 := hs.box.frozen 0
  have lb := hs.box.lt.2
  have lB := hs.box.lt.1
  by_cases h2 : 2 ^ 2 ≤ m ∧ m < 2 * 2 ^ 2
  · have hor : bits BinOp.andNot IntKind.u64 (m : Int) 4 = ((m - 4 : Nat) : Int) := (bits_not ⟨2, by omega⟩ ⟨m, hm⟩ h2.1).elim id (fun h => absurd h2.2 (by simp only at h; omega))
    have HT : Hid (takeM m lp ⟨3, 2, v, wt, l⟩ = some (m - 4, lp)) := by show _ = _; unfold takeM; rw [if_neg (by simp), if_pos rfl]; exact if_pos h2
    go_enter Tryz.func110, Tryz.ntmps110
    go_wp2_with fail
    go_region_held3 (fun w' => w'.cell? ⟨sb, 0, none⟩ = some (.int .u64 m) ∧ w'.cell? ⟨w.heap.size, 1, none⟩ = some (.int .i64 2)) (go_keep) (first | (go_at_call 121; refine (last_any m 2 hm (by omega) _).mono ?_; rintro e w4 ⟨rfl, hw4⟩; subst w4; rw [decide_eq_true h2]) | fail)
    go_wp2_with fail
    go_region
    go_wp2_with fail
    go_ret
    exact ⟨hold_turns lB _ _, .inr ⟨_, _, _, HT.out, rfl, hs.hold _⟩⟩
  · have HT : Hid (takeM m lp ⟨3, 2, v, wt, l⟩ = none) := by show _ = _; unfold takeM; rw [if_neg (by simp), if_pos rfl]; exact if_neg h2
    go_enter Tryz.func110, Tryz.ntmps110
    go_wp2_with fail
    go_region_held3 (fun w' => w'.cell? ⟨sb, 0, none⟩ = some (.int .u64 m) ∧ w'.cell? ⟨w.heap.size, 1, none⟩ = some (.int .i64 2)) (go_keep) (first | (go_at_call 121; refine (last_any m 2 hm (by omega) _).mono ?_; rintro e w4 ⟨rfl, hw4⟩; subst w4; rw [decide_eq_false h2]) | fail)
    go_wp2_with fail
    go_ret
    exact ⟨turns_B (((Kept.refl w).alloc _).drew), .inl ⟨HT.out, rfl⟩⟩
set_option maxHeartbeats 2000000 in
theorem takes_lock3 (B sb m : Nat) (lv : Value) (lp : List Nat) (a : Option Addr) (c : Nat) (v wt : Int) (l : List CaseD) (w : World) (hs : StP B w sb lv m lp) (hm : m < 256) :
    Calls Tryz.prog 110 #[.pointer (some ⟨sb, 0, none⟩), .agg #[.int .i64 2, .int .i64 3, .int .i64 v, .int .i64 wt, .slice a l.length c]] w (TakPost B sb m lp ⟨2, 3, v, wt, l⟩ w) := by
  have c0 : w.cell? ⟨sb, 0, none⟩ = some (.int .u64 m) := hs.box.cell 0 (by simp)
  have f0 := hs.box.frozen 0
  have lb := hs.box.lt.2
  have lB := hs.box.lt.1
  by_cases h2 : m < 2 ^ 3
  · have hor : bits BinOp.or IntKind.u64 (m : Int) 8 = (m : Int) + 8 := bits_or ⟨3, by omega⟩ ⟨m, hm⟩ h2
    have HT : Hid (takeM m lp ⟨2, 3, v, wt, l⟩ = some (m + 8, lp)) := by show _ = _; unfold takeM; rw [if_pos rfl]; exact if_pos h2
    go_enter Tryz.func110, Tryz.ntmps110
    go_wp2_with fail
    go_region_held3 (fun w' => w'.cell? ⟨sb, 0, none⟩ = some (.int .u64 m) ∧ w'.cell? ⟨w.heap.size, 1, none⟩ = some (.int .i64 3)) (go_keep) (first | (go_at_call 120; refine (above_any m 3 hm (by omega) _).mono ?_; rintro e w4 ⟨rfl, hw4⟩; subst w4; rw [decide_eq_true h2]) | fail)
    go_wp2_with fail
    go_region
    go_wp2_with fail
    go_ret
    exact ⟨hold_turns lB _ _, .inr ⟨_, _, _, HT.out, rfl, hs.hold _⟩⟩
  · have HT : Hid (takeM m lp ⟨2, 3, v, wt, l⟩ = none) := by show _ = _; unfold takeM; rw [if_pos rfl]; exact if_neg h2
    go_enter Tryz.func110, Tryz.ntmps110
    go_wp2_with fail
    go_region_held3 (fun w' => w'.cell? ⟨sb, 0, none⟩ = some (.int .u64 m) ∧ w'.cell? ⟨w.heap.size, 1, none⟩ = some (.int .i64 3)) (go_keep) (first | (go_at_call 120; refine (above_any m 3 hm (by omega) _).mono ?_; rintro e w4 ⟨rfl, hw4⟩; subst w4; rw [decide_eq_false h2]) | fail)
    go_wp2_with fail
    go_ret
    exact ⟨turns_B (((Kept.refl w).alloc _).drew), .inl ⟨HT.out, rfl⟩⟩
set_option maxHeartbeats 2000000 in
theorem takes_unlock3 (B sb m : Nat) (lv : Value) (lp : List Nat) (a : Option Addr) (c : Nat) (v wt : Int) (l : List CaseD) (w : World) (hs : StP B w sb lv m lp) (hm : m < 256) :
    Calls Tryz.prog 110 #[.pointer (some ⟨sb, 0, none⟩), .agg #[.int .i64 3, .int .i64 3, .int .i64 v, .int .i64 wt, .slice a l.length c]] w (TakPost B sb m lp ⟨3, 3, v, wt, l⟩ w) := by
  have c0 : w.cell? ⟨sb, 0, none⟩ = some (.int .u64 m) := hs.box.cell 0 (by simp)
  have f0 := hs.box.frozen 0
  have lb := hs.box.lt.2
  have lB := hs.box.lt.1
  by_cases h2 : 2 ^ 3 ≤ m ∧ m < 2 * 2 ^ 3
  · have hor : bits BinOp.andNot IntKind.u64 (m : Int) 8 = ((m - 8 : Nat) : Int) := (bits_not ⟨3, by omega⟩ ⟨m, hm⟩ h2.1).elim id (fun h => absurd h2.2 (by simp only at h; omega))
    have HT : Hid (takeM m lp ⟨3, 3, v, wt, l⟩ = some (m - 8, lp)) := by show _ = _; unfold takeM; rw [if_neg (by simp), if_pos rfl]; exact if_pos h2
    go_enter Tryz.func110, Tryz.ntmps110
    go_wp2_with fail
    go_region_held3 (fun w' => w'.cell? ⟨sb, 0, none⟩ = some (.int .u64 m) ∧ w'.cell? ⟨w.heap.size, 1, none⟩ = some (.int .i64 3)) (go_keep) (first | (go_at_call 121; refine (last_any m 3 hm (by omega) _).mono ?_; rintro e w4 ⟨rfl, hw4⟩; subst w4; rw [decide_eq_true h2]) | fail)
    go_wp2_with fail
    go_region
    go_wp2_with fail
    go_ret
    exact ⟨hold_turns lB _ _, .inr ⟨_, _, _, HT.out, rfl, hs.hold _⟩⟩
  · have HT : Hid (takeM m lp ⟨3, 3, v, wt, l⟩ = none) := by show _ = _; unfold takeM; rw [if_neg (by simp), if_pos rfl]; exact if_neg h2
    go_enter Tryz.func110, Tryz.ntmps110
    go_wp2_with fail
    go_region_held3 (fun w' => w'.cell? ⟨sb, 0, none⟩ = some (.int .u64 m) ∧ w'.cell? ⟨w.heap.size, 1, none⟩ = some (.int .i64 3)) (go_keep) (first | (go_at_call 121; refine (last_any m 3 hm (by omega) _).mono ?_; rintro e w4 ⟨rfl, hw4⟩; subst w4; rw [decide_eq_false h2]) | fail)
    go_wp2_with fail
    go_ret
    exact ⟨turns_B (((Kept.refl w).alloc _).drew), .inl ⟨HT.out, rfl⟩⟩
set_option maxHeartbeats 2000000 in
theorem takes_lock4 (B sb m : Nat) (lv : Value) (lp : List Nat) (a : Option Addr) (c : Nat) (v wt : Int) (l : List CaseD) (w : World) (hs : StP B w sb lv m lp) (hm : m < 256) :
    Calls Tryz.prog 110 #[.pointer (some ⟨sb, 0, none⟩), .agg #[.int .i64 2, .int .i64 4, .int .i64 v, .int .i64 wt, .slice a l.length c]] w (TakPost B sb m lp ⟨2, 4, v, wt, l⟩ w) := by
  have c0 : w.cell? ⟨sb, 0, none⟩ = some (.int .u64 m) := hs.box.cell 0 (by simp)
  have f0 := hs.box.frozen 0
  have lb := hs.box.lt.2
  have lB := hs.box.lt.1
  by_cases h2 : m < 2 ^ 4
  · have hor : bits BinOp.or IntKind.u64 (m : Int) 16 = (m : Int) + 16 := bits_or ⟨4, by omega⟩ ⟨m, hm⟩ h2
    have HT : Hid (takeM m lp ⟨2, 4, v, wt, l⟩ = some (m + 16, lp)) := by show _ = _; unfold takeM; rw [if_pos rfl]; exact if_pos h2
    go_enter Tryz.func110, Tryz.ntmps110
    go_wp2_with fail
    go_region_held3 (fun w' => w'.cell? ⟨sb, 0, none⟩ = some (.int .u64 m) ∧ w'.cell? ⟨w.heap.size, 1, none⟩ = some (.int .i64 4)) (go_keep) (first | (go_at_call 120; refine (above_any m 4 hm (by omega) _).mono ?_; rintro e w4 ⟨rfl, hw4⟩; subst w4; rw [decide_eq_true h2]) | fail)
    go_wp2_with fail
    go_region
    go_wp2_with fail
    go_ret
    exact ⟨hold_turns lB _ _, .inr ⟨_, _, _, HT.out, rfl, hs.hold _⟩⟩
  · have HT : Hid (takeM m lp ⟨2, 4, v, wt, l⟩ = none) := by show _ = _; unfold takeM; rw [if_pos rfl]; exact if_neg h2
    go_enter Tryz.func110, Tryz.ntmps110
    go_wp2_with fail
    go_region_held3 (fun w' => w'.cell? ⟨sb, 0, none⟩ = some (.int .u64 m) ∧ w'.cell? ⟨w.heap.size, 1, none⟩ = some (.int .i64 4)) (go_keep) (first | (go_at_call 120; refine (above_any m 4 hm (by omega) _).mono ?_; rintro e w4 ⟨rfl, hw4⟩; subst w4; rw [decide_eq_false h2]) | fail)
    go_wp2_with fail
    go_ret
    exact ⟨turns_B (((Kept.refl w).alloc _).drew), .inl ⟨HT.out, rfl⟩⟩
set_option maxHeartbeats 2000000 in
theorem takes_unlock4 (B sb m : Nat) (lv : Value) (lp : List Nat) (a : Option Addr) (c : Nat) (v wt : Int) (l : List CaseD) (w : World) (hs : StP B w sb lv m lp) (hm : m < 256) :
    Calls Tryz.prog 110 #[.pointer (some ⟨sb, 0, none⟩), .agg #[.int .i64 3, .int .i64 4, .int .i64 v, .int .i64 wt, .slice a l.length c]] w (TakPost B sb m lp ⟨3, 4, v, wt, l⟩ w) := by
  have c0 : w.cell? ⟨sb, 0, none⟩ = some (.int .u64 m) := hs.box.cell 0 (by simp)
  have f0 := hs.box.frozen 0
  have lb := hs.box.lt.2
  have lB := hs.box.lt.1
  by_cases h2 : 2 ^ 4 ≤ m ∧ m < 2 * 2 ^ 4
  · have hor : bits BinOp.andNot IntKind.u64 (m : Int) 16 = ((m - 16 : Nat) : Int) := (bits_not ⟨4, by omega⟩ ⟨m, hm⟩ h2.1).elim id (fun h => absurd h2.2 (by simp only at h; omega))
    have HT : Hid (takeM m lp ⟨3, 4, v, wt, l⟩ = some (m - 16, lp)) := by show _ = _; unfold takeM; rw [if_neg (by simp), if_pos rfl]; exact if_pos h2
    go_enter Tryz.func110, Tryz.ntmps110
    go_wp2_with fail
    go_region_held3 (fun w' => w'.cell? ⟨sb, 0, none⟩ = some (.int .u64 m) ∧ w'.cell? ⟨w.heap.size, 1, none⟩ = some (.int .i64 4)) (go_keep) (first | (go_at_call 121; refine (last_any m 4 hm (by omega) _).mono ?_; rintro e w4 ⟨rfl, hw4⟩; subst w4; rw [decide_eq_true h2]) | fail)
    go_wp2_with fail
    go_region
    go_wp2_with fail
    go_ret
    exact ⟨hold_turns lB _ _, .inr ⟨_, _, _, HT.out, rfl, hs.hold _⟩⟩
  · have HT : Hid (takeM m lp ⟨3, 4, v, wt, l⟩ = none) := by show _ = _; unfold takeM; rw [if_neg (by simp), if_pos rfl]; exact if_neg h2
    go_enter Tryz.func110, Tryz.ntmps110
    go_wp2_with fail
    go_region_held3 (fun w' => w'.cell? ⟨sb, 0, none⟩ = some (.int .u64 m) ∧ w'.cell? ⟨w.heap.size, 1, none⟩ = some (.int .i64 4)) (go_keep) (first | (go_at_call 121; refine (last_any m 4 hm (by omega) _).mono ?_; rintro e w4 ⟨rfl, hw4⟩; subst w4; rw [decide_eq_false h2]) | fail)
    go_wp2_with fail
    go_ret
    exact ⟨turns_B (((Kept.refl w).alloc _).drew), .inl ⟨HT.out, rfl⟩⟩
set_option maxHeartbeats 2000000 in
theorem takes_lock5 (B sb m : Nat) (lv : Value) (lp : List Nat) (a : Option Addr) (c : Nat) (v wt : Int) (l : List CaseD) (w : World) (hs : StP B w sb lv m lp) (hm : m < 256) :
    Calls Tryz.prog 110 #[.pointer (some ⟨sb, 0, none⟩), .agg #[.int .i64 2, .int .i64 5, .int .i64 v, .int .i64 wt, .slice a l.length c]] w (TakPost B sb m lp ⟨2, 5, v, wt, l⟩ w) := by
  have c0 : w.cell? ⟨sb, 0, none⟩ = some (.int .u64 m) := hs.box.cell 0 (by simp)
  have f0 := hs.box.frozen 0
  have lb := hs.box.lt.2
  have lB := hs.box.lt.1
  by_cases h2 : m < 2 ^ 5
  · have hor : bits BinOp.or IntKind.u64 (m : Int) 32 = (m : Int) + 32 := bits_or ⟨5, by omega⟩ ⟨m, hm⟩ h2
    have HT : Hid (takeM m lp ⟨2, 5, v, wt, l⟩ = some (m + 32, lp)) := by show _ = _; unfold takeM; rw [if_pos rfl]; exact if_pos h2
    go_enter Tryz.func110, Tryz.ntmps110
    go_wp2_with fail
    go_region_held3 (fun w' => w'.cell? ⟨sb, 0, none⟩ = some (.int .u64 m) ∧ w'.cell? ⟨w.heap.size, 1, none⟩ = some (.int .i64 5)) (go_keep) (first | (go_at_call 120; refine (above_any m 5 hm (by omega) _).mono ?_; rintro e w4 ⟨rfl, hw4⟩; subst w4; rw [decide_eq_true h2]) | fail)
    go_wp2_with fail
    go_region
    go_wp2_with fail
    go_ret
    exact ⟨hold_turns lB _ _, .inr ⟨_, _, _, HT.out, rfl, hs.hold _⟩⟩
  · have HT : Hid (takeM m lp ⟨2, 5, v, wt, l⟩ = none) := by show _ = _; unfold takeM; rw [if_pos rfl]; exact if_neg h2
    go_enter Tryz.func110, Tryz.ntmps110
    go_wp2_with fail
    go_region_held3 (fun w' => w'.cell? ⟨sb, 0, none⟩ = some (.int .u64 m) ∧ w'.cell? ⟨w.heap.size, 1, none⟩ = some (.int .i64 5)) (go_keep) (first | (go_at_call 120; refine (above_any m 5 hm (by omega) _).mono ?_; rintro e w4 ⟨rfl, hw4⟩; subst w4; rw [decide_eq_false h2]) | fail)
    go_wp2_with fail
    go_ret
    exact ⟨turns_B (((Kept.refl w).alloc _).drew), .inl ⟨HT.out, rfl⟩⟩
set_option maxHeartbeats 2000000 in
theorem takes_unlock5 (B sb m : Nat) (lv : Value) (lp : List Nat) (a : Option Addr) (c : Nat) (v wt : Int) (l : List CaseD) (w : World) (hs : StP B w sb lv m lp) (hm : m < 256) :
    Calls Tryz.prog 110 #[.pointer (some ⟨sb, 0, none⟩), .agg #[.int .i64 3, .int .i64 5, .int .i64 v, .int .i64 wt, .slice a l.length c]] w (TakPost B sb m lp ⟨3, 5, v, wt, l⟩ w) := by
  have c0 : w.cell? ⟨sb, 0, none⟩ = some (.int .u64 m) := hs.box.cell 0 (by simp)
  have f0 := hs.box.frozen 0
  have lb := hs.box.lt.2
  have lB := hs.box.lt.1
  by_cases h2 : 2 ^ 5 ≤ m ∧ m < 2 * 2 ^ 5
  · have hor : bits BinOp.andNot IntKind.u64 (m : Int) 32 = ((m - 32 : Nat) : Int) := (bits_not ⟨5, by omega⟩ ⟨m, hm⟩ h2.1).elim id (fun h => absurd h2.2 (by simp only at h; omega))
    have HT : Hid (takeM m lp ⟨3, 5, v, wt, l⟩ = some (m - 32, lp)) := by show _ = _; unfold takeM; rw [if_neg (by simp), if_pos rfl]; exact if_pos h2
    go_enter Tryz.func110, Tryz.ntmps110
    go_wp2_with fail
    go_region_held3 (fun w' => w'.cell? ⟨sb, 0, none⟩ = some (.int .u64 m) ∧ w'.cell? ⟨w.heap.size, 1, none⟩ = some (.int .i64 5)) (go_keep) (first | (go_at_call 121; refine (last_any m 5 hm (by omega) _).mono ?_; rintro e w4 ⟨rfl, hw4⟩; subst w4; rw [decide_eq_true h2]) | fail)
    go_wp2_with fail
    go_region
    go_wp2_with fail
    go_ret
    exact ⟨hold_turns lB _ _, .inr ⟨_, _, _, HT.out, rfl, hs.hold _⟩⟩
  · have HT : Hid (takeM m lp ⟨3, 5, v, wt, l⟩ = none) := by show _ = _; unfold takeM; rw [if_neg (by simp), if_pos rfl]; exact if_neg h2
    go_enter Tryz.func110, Tryz.ntmps110
    go_wp2_with fail
    go_region_held3 (fun w' => w'.cell? ⟨sb, 0, none⟩ = some (.int .u64 m) ∧ w'.cell? ⟨w.heap.size, 1, none⟩ = some (.int .i64 5)) (go_keep) (first | (go_at_call 121; refine (last_any m 5 hm (by omega) _).mono ?_; rintro e w4 ⟨rfl, hw4⟩; subst w4; rw [decide_eq_false h2]) | fail)
    go_wp2_with fail
    go_ret
    exact ⟨turns_B (((Kept.refl w).alloc _).drew), .inl ⟨HT.out, rfl⟩⟩
set_option maxHeartbeats 2000000 in
theorem takes_lock6 (B sb m : Nat) (lv : Value) (lp : List Nat) (a : Option Addr) (c : Nat) (v wt : Int) (l : List CaseD) (w : World) (hs : StP B w sb lv m lp) (hm : m < 256) :
    Calls Tryz.prog 110 #[.pointer (some ⟨sb, 0, none⟩), .agg #[.int .i64 2, .int .i64 6, .int .i64 v, .int .i64 wt, .slice a l.length c]] w (TakPost B sb m lp ⟨2, 6, v, wt, l⟩ w) := by
  have c0 : w.cell? ⟨sb, 0, none⟩ = some (.int .u64 m) := hs.box.cell 0 (by simp)
  have f0 := hs.box.frozen 0
  have lb := hs.box.lt.2
  have lB := hs.box.lt.1
  by_cases h2 : m < 2 ^ 6
  · have hor : bits BinOp.or IntKind.u64 (m : Int) 64 = (m : Int) + 64 := bits_or ⟨6, by omega⟩ ⟨m, hm⟩ h2
    have HT : Hid (takeM m lp ⟨2, 6, v, wt, l⟩ = some (m + 64, lp)) := by show _ = _; unfold takeM; rw [if_pos rfl]; exact if_pos h2
    go_enter Tryz.func110, Tryz.ntmps110
    go_wp2_with fail
    go_region_held3 (fun w' => w'.cell? ⟨sb, 0, none⟩ = some (.int .u64 m) ∧ w'.cell? ⟨w.heap.size, 1, none⟩ = some (.int .i64 6)) (go_keep) (first | (go_at_call 120; refine (above_any m 6 hm (by omega) _).mono ?_; rintro e w4 ⟨rfl, hw4⟩; subst w4; rw [decide_eq_true h2]) | fail)
    go_wp2_with fail
    go_region
    go_wp2_with fail
    go_ret
    exact ⟨hold_turns lB _ _, .inr ⟨_, _, _, HT.out, rfl, hs.hold _⟩⟩
  · have HT : Hid (takeM m lp ⟨2, 6, v, wt, l⟩ = none) := by show _ = _; unfold takeM; rw [if_pos rfl]; exact if_neg h2
    go_enter Tryz.func110, Tryz.ntmps110
    go_wp2_with fail
    go_region_held3 (fun w' => w'.cell? ⟨sb, 0, none⟩ = some (.int .u64 m) ∧ w'.cell? ⟨w.heap.size, 1, none⟩ = some (.int .i64 6)) (go_keep) (first | (go_at_call 120; refine (above_any m 6 hm (by omega) _).mono ?_; rintro e w4 ⟨rfl, hw4⟩; subst w4; rw [decide_eq_false h2]) | fail)
    go_wp2_with fail
    go_ret
    exact ⟨turns_B (((Kept.refl w).alloc _).drew), .inl ⟨HT.out, rfl⟩⟩
set_option maxHeartbeats 2000000 in
theorem takes_unlock6 (B sb m : Nat) (lv : Value) (lp : List Nat) (a : Option Addr) (c : Nat) (v wt : Int) (l : List CaseD) (w : World) (hs : StP B w sb lv m lp) (hm : m < 256) :
    Calls Tryz.prog 110 #[.pointer (some ⟨sb, 0, none⟩), .agg #[.int .i64 3, .int .i64 6, .int .i64 v, .int .i64 wt, .slice a l.length c]] w (TakPost B sb m lp ⟨3, 6, v, wt, l⟩ w) := by
  have c0 : w.cell? ⟨sb, 0, none⟩ = some (.int .u64 m) := hs.box.cell 0 (by simp)
  have f0 := hs.box.frozen 0
  have lb := hs.box.lt.2
  have lB := hs.box.lt.1
  by_cases h2 : 2 ^ 6 ≤ m ∧ m < 2 * 2 ^ 6
  · have hor : bits BinOp.andNot IntKind.u64 (m : Int) 64 = ((m - 64 : Nat) : Int) := (bits_not ⟨6, by omega⟩ ⟨m, hm⟩ h2.1).elim id (fun h => absurd h2.2 (by simp only at h; omega))
    have HT : Hid (takeM m lp ⟨3, 6, v, wt, l⟩ = some (m - 64, lp)) := by show _ = _; unfold takeM; rw [if_neg (by simp), if_pos rfl]; exact if_pos h2
    go_enter Tryz.func110, Tryz.ntmps110
    go_wp2_with fail
    go_region_held3 (fun w' => w'.cell? ⟨sb, 0, none⟩ = some (.int .u64 m) ∧ w'.cell? ⟨w.heap.size, 1, none⟩ = some (.int .i64 6)) (go_keep) (first | (go_at_call 121; refine (last_any m 6 hm (by omega) _).mono ?_; rintro e w4 ⟨rfl, hw4⟩; subst w4; rw [decide_eq_true h2]) | fail)
    go_wp2_with fail
    go_region
    go_wp2_with fail
    go_ret
    exact ⟨hold_turns lB _ _, .inr ⟨_, _, _, HT.out, rfl, hs.hold _⟩⟩
  · have HT : Hid (takeM m lp ⟨3, 6, v, wt, l⟩ = none) := by show _ = _; unfold takeM; rw [if_neg (by simp), if_pos rfl]; exact if_neg h2
    go_enter Tryz.func110, Tryz.ntmps110
    go_wp2_with fail
    go_region_held3 (fun w' => w'.cell? ⟨sb, 0, none⟩ = some (.int .u64 m) ∧ w'.cell? ⟨w.heap.size, 1, none⟩ = some (.int .i64 6)) (go_keep) (first | (go_at_call 121; refine (last_any m 6 hm (by omega) _).mono ?_; rintro e w4 ⟨rfl, hw4⟩; subst w4; rw [decide_eq_false h2]) | fail)
    go_wp2_with fail
    go_ret
    exact ⟨turns_B (((Kept.refl w).alloc _).drew), .inl ⟨HT.out, rfl⟩⟩
set_option maxHeartbeats 2000000 in
theorem takes_lock7 (B sb m : Nat) (lv : Value) (lp : List Nat) (a : Option Addr) (c : Nat) (v wt : Int) (l : List CaseD) (w : World) (hs : StP B w sb lv m lp) (hm : m < 256) :
    Calls Tryz.prog 110 #[.pointer (some ⟨sb, 0, none⟩), .agg #[.int .i64 2, .int .i64 7, .int .i64 v, .int .i64 wt, .slice a l.length c]] w (TakPost B sb m lp ⟨2, 7, v, wt, l⟩ w) := by
  have c0 : w.cell? ⟨sb, 0, none⟩ = some (.int .u64 m) := hs.box.cell 0 (by simp)
  have f0 := hs.box.frozen 0
  have lb := hs.box.lt.2
  have lB := hs.box.lt.1
  by_cases h2 : m < 2 ^ 7
  · have hor : bits BinOp.or IntKind.u64 (m : Int) 128 = (m : Int) + 128 := bits_or ⟨7, by omega⟩ ⟨m, hm⟩ h2
    have HT : Hid (takeM m lp ⟨2, 7, v, wt, l⟩ = some (m + 128, lp)) := by show _ = _; unfold takeM; rw [if_pos rfl]; exact if_pos h2
    go_enter Tryz.func110, Tryz.ntmps110
    go_wp2_with fail
    go_region_held3 (fun w' => w'.cell? ⟨sb, 0, none⟩ = some (.int .u64 m) ∧ w'.cell? ⟨w.heap.size, 1, none⟩ = some (.int .i64 7)) (go_keep) (first | (go_at_call 120; refine (above_any m 7 hm (by omega) _).mono ?_; rintro e w4 ⟨rfl, hw4⟩; subst w4; rw [decide_eq_true h2]) | fail)
    go_wp2_with fail
    go_region
    go_wp2_with fail
    go_ret
    exact ⟨hold_turns lB _ _, .inr ⟨_, _, _, HT.out, rfl, hs.hold _⟩⟩
  · have HT : Hid (takeM m lp ⟨2, 7, v, wt, l⟩ = none) := by show _ = _; unfold takeM; rw [if_pos rfl]; exact if_neg h2
    go_enter Tryz.func110, Tryz.ntmps110
    go_wp2_with fail
    go_region_held3 (fun w' => w'.cell? ⟨sb, 0, none⟩ = some (.int .u64 m) ∧ w'.cell? ⟨w.heap.size, 1, none⟩ = some (.int .i64 7)) (go_keep) (first | (go_at_call 120; refine (above_any m 7 hm (by omega) _).mono ?_; rintro e w4 ⟨rfl, hw4⟩; subst w4; rw [decide_eq_false h2]) | fail)
    go_wp2_with fail
    go_ret
    exact ⟨turns_B (((Kept.refl w).alloc _).drew), .inl ⟨HT.out, rfl⟩⟩
set_option maxHeartbeats 2000000 in
theorem takes_unlock7 (B sb m : Nat) (lv : Value) (lp : List Nat) (a : Option Addr) (c : Nat) (v wt : Int) (l : List CaseD) (w : World) (hs : StP B w sb lv m lp) (hm : m < 256) :
    Calls Tryz.prog 110 #[.pointer (some ⟨sb, 0, none⟩), .agg #[.int .i64 3, .int .i64 7, .int .i64 v, .int .i64 wt, .slice a l.length c]] w (TakPost B sb m lp ⟨3, 7, v, wt, l⟩ w) := by
  have c0 : w.cell? ⟨sb, 0, none⟩ = some (.int .u64 m) := hs.box.cell 0 (by simp)
  have f0 := hs.box.frozen 0
  have lb := hs.box.lt.2
  have lB := hs.box.lt.1
  by_cases h2 : 2 ^ 7 ≤ m ∧ m < 2 * 2 ^ 7
  · have hor : bits BinOp.andNot IntKind.u64 (m : Int) 128 = ((m - 128 : Nat) : Int) := (bits_not ⟨7, by omega⟩ ⟨m, hm⟩ h2.1).elim id (fun h => absurd h2.2 (by simp only at h; omega))
    have HT : Hid (takeM m lp ⟨3, 7, v, wt, l⟩ = some (m - 128, lp)) := by show _ = _; unfold takeM; rw [if_neg (by simp), if_pos rfl]; exact if_pos h2
    go_enter Tryz.func110, Tryz.ntmps110
    go_wp2_with fail
    go_region_held3 (fun w' => w'.cell? ⟨sb, 0, none⟩ = some (.int .u64 m) ∧ w'.cell? ⟨w.heap.size, 1, none⟩ = some (.int .i64 7)) (go_keep) (first | (go_at_call 121; refine (last_any m 7 hm (by omega) _).mono ?_; rintro e w4 ⟨rfl, hw4⟩; subst w4; rw [decide_eq_true h2]) | fail)
    go_wp2_with fail
    go_region
    go_wp2_with fail
    go_ret
    exact ⟨hold_turns lB _ _, .inr ⟨_, _, _, HT.out, rfl, hs.hold _⟩⟩
  · have HT : Hid (takeM m lp ⟨3, 7, v, wt, l⟩ = none) := by show _ = _; unfold takeM; rw [if_neg (by simp), if_pos rfl]; exact if_neg h2
    go_enter Tryz.func110, Tryz.ntmps110
    go_wp2_with fail
    go_region_held3 (fun w' => w'.cell? ⟨sb, 0, none⟩ = some (.int .u64 m) ∧ w'.cell? ⟨w.heap.size, 1, none⟩ = some (.int .i64 7)) (go_keep) (first | (go_at_call 121; refine (last_any m 7 hm (by omega) _).mono ?_; rintro e w4 ⟨rfl, hw4⟩; subst w4; rw [decide_eq_false h2]) | fail)
    go_wp2_with fail
    go_ret
    exact ⟨turns_B (((Kept.refl w).alloc _).drew), .inl ⟨HT.out, rfl⟩⟩
end Go.Proofs.YtlkbphogpbcjfaaGreatDoor
namespace Go.Proofs.YtlkbphogpbcjfaaGreatDoor
open Go.RowKit

theorem StP.push {B : Nat} {w : World} {sb : Nat} {lv : Value} {m : Nat} {lp : List Nat} (h : StP B w sb lv m lp) {o1 o2 : Obj} {w' : World} {g n c : Nat} (gr : ((w.alloc o1).drew.alloc o2).grownBy w' lv.ownBlock) (at5 : lv.ownBlock = some g ∨ (w.alloc o1).drew.heap.size < g)
    (r : LRow B w' (.slice (some ⟨g, 0, none⟩) n c) (lp.reverse ++ [m])) :
    StP B (w'.setCell ⟨sb, 1, none⟩ (.slice (some ⟨g, 0, none⟩) n c)) sb (.slice (some ⟨g, 0, none⟩) n c) m (m :: lp) ∧ Turns (fun k => B ≤ k) w (w'.setCell ⟨sb, 1, none⟩ (.slice (some ⟨g, 0, none⟩) n c)) ∧ w'.cell? ⟨sb, 0, none⟩ = some (.int .u64 m) ∧ w'.cell? ⟨sb, 1, none⟩ = some lv ∧ w'.frozen? ⟨sb, 1, none⟩ = false ∧ sb < w'.heap.size := by
  have hl := h.box.lt
  have t : Turns (fun k => lv.ownBlock = some k) w w' := ((((Turns.refl _ w).alloc o1).drew).alloc o2).trans (Turns.grown gr (fun k e => e))
  have b2 := h.box.turns t (fun e => h.far _ e rfl)
  have hg : g ≠ sb := by
    rcases at5 with h1 | h1
    · exact h.far _ h1
    · have : (w.alloc o1).drew.heap.size = w.heap.size + 1 := by show (w.alloc o1).heap.size = _; simp
      omega
  have t2 := turn_set w' sb 1 (.slice (some ⟨g, 0, none⟩) n c)
  have hT : Turns (fun k => B ≤ k) w w' := t.mono (fun k _ hk => (World.ownsRow.lt h.row k hk).1)
  have r2 : LRow B (w'.setCell ⟨sb, 1, none⟩ (.slice (some ⟨g, 0, none⟩) n c)) (.slice (some ⟨g, 0, none⟩) n c) (m :: lp).reverse := by
    rw [List.reverse_cons]
    exact r.turns t2 (fun q hq e => by simp [Value.ownBlock] at hq; omega)
  exact ⟨⟨b2.set 1 _, r2, fun q hq => by simp [Value.ownBlock] at hq; omega⟩, hT.next t2 (fun i _ hi => by show B ≤ i; omega), b2.cell 0 (by simp), b2.cell 1 (by simp), b2.frozen 1, b2.lt.2⟩

set_option maxHeartbeats 4000000 in
set_option maxRecDepth 10000 in
theorem takes_loop (B sb m : Nat) (lv : Value) (lp : List Nat) (a : Option Addr) (c : Nat) (n v wt : Int) (l : List CaseD) (w : World) (hs : StP B w sb lv m lp) (hl : lp.length ≤ 3) :
    Calls Tryz.prog 110 #[.pointer (some ⟨sb, 0, none⟩), .agg #[.int .i64 8, .int .i64 n, .int .i64 v, .int .i64 wt, .slice a l.length c]] w (TakPost B sb m lp ⟨8, n, v, wt, l⟩ w) := by
  have c0 : w.cell? ⟨sb, 0, none⟩ = some (.int .u64 m) := hs.box.cell 0 (by simp)
  have c1 : w.cell? ⟨sb, 1, none⟩ = some lv := hs.box.cell 1 (by simp)
  have f1 := hs.box.frozen 1
  have lb := hs.box.lt.2
  have lB := hs.box.lt.1
  obtain ⟨la, lc, hlv⟩ := hs.row.form
  rw [List.length_reverse] at hlv
  have HS : Hid (StP B w sb lv m lp) := hs
  clear hs
  by_cases h3 : lp.length = 3
  · have HT : Hid (takeM m lp ⟨8, n, v, wt, l⟩ = none) := by show _ = _; unfold takeM; rw [if_neg (by simp), if_neg (by simp), if_pos rfl]; exact if_pos h3
    rw [h3] at hlv
    subst hlv
    go_enter Tryz.func110, Tryz.ntmps110
    go_wp2_with fail
    go_ret
    exact ⟨turns_B ((Kept.refl w).alloc _), .inl ⟨HT.out, rfl⟩⟩
  · have HT : Hid (takeM m lp ⟨8, n, v, wt, l⟩ = some (m, m :: lp)) := by show _ = _; unfold takeM; rw [if_neg (by simp), if_neg (by simp), if_pos rfl]; exact if_neg h3
    have hb3 : ((lp.length : Int) == 3) = false := beq_eq_false_iff_ne.2 (by omega)
    subst hlv
    have KA := ((Kept.refl w).alloc (.cells #[.int .i64 8, .int .i64 n, .int .i64 v, .int .i64 wt, .slice a l.length c] 77)).drew
    go_enter Tryz.func110, Tryz.ntmps110
    go_wp2_with fail
    refine wp_region_S (by kernel_rfl) 13 (fun w' => w'.cell? ⟨sb, 0, none⟩ = some (.int .u64 m) ∧ w'.cell? ⟨sb, 1, none⟩ = some (.slice la lp.length lc)) ?_
    have hS0 := And.intro (KA.cell c0) (KA.cell c1)
    refine wpAnyS_take (i := 0) (v := .pointer (some ⟨sb, 0, none⟩)) rfl (by kernel_rfl) (by kernel_rfl) (by kernel_rfl) (by kernel_rfl) (fun _ _ _ h => h) hS0 rfl (fun wx hx => by obtain ⟨s1, s2⟩ := hx; go_simp) ?_
    refine wpAnyS_take (i := 1) (v := .pointer (some ⟨sb, 0, none⟩)) rfl (by kernel_rfl) (by kernel_rfl) (by kernel_rfl) (by kernel_rfl) (fun _ _ _ h => h) hS0 rfl (fun wx hx => by obtain ⟨s1, s2⟩ := hx; go_simp) ?_
    refine wpAnyS_take (i := 2) (v := .pointer (some ⟨sb, 0, none⟩)) rfl (by kernel_rfl) (by kernel_rfl) (by kernel_rfl) (by kernel_rfl) (fun _ _ _ h => h) hS0 rfl (fun wx hx => by obtain ⟨s1, s2⟩ := hx; go_simp) ?_
    refine wpAnyS_take (i := 3) (v := .pointer (some ⟨sb, 1, none⟩)) rfl (by kernel_rfl) (by kernel_rfl) (by kernel_rfl) (by kernel_rfl) (fun _ _ _ h => h) hS0 rfl (fun wx hx => by obtain ⟨s1, s2⟩ := hx; go_simp) ?_
    refine wpAnyS_take (i := 4) (v := .slice la lp.length lc) rfl (by kernel_rfl) (by kernel_rfl) (by kernel_rfl) (by kernel_rfl) (fun _ _ _ h => h) hS0 rfl (fun wx hx => by obtain ⟨s1, s2⟩ := hx; go_simp) ?_
    refine wpAnyS_take (i := 5) (v := .pointer (some ⟨sb, 0, none⟩)) rfl (by kernel_rfl) (by kernel_rfl) (by kernel_rfl) (by kernel_rfl) (fun _ _ _ h => h) hS0 rfl (fun wx hx => by obtain ⟨s1, s2⟩ := hx; go_simp) ?_
    refine wpAnyS_take (i := 6) (v := .pointer (some ⟨sb, 0, none⟩)) rfl (by kernel_rfl) (by kernel_rfl) (by kernel_rfl) (by kernel_rfl) (fun _ _ _ h => h) hS0 rfl (fun wx hx => by obtain ⟨s1, s2⟩ := hx; go_simp) ?_
    refine wpAnyS_take (i := 7) (v := .pointer (some ⟨sb, 0, none⟩)) rfl (by kernel_rfl) (by kernel_rfl) (by kernel_rfl) (by kernel_rfl) (fun _ _ _ h => h) hS0 rfl (fun wx hx => by obtain ⟨s1, s2⟩ := hx; go_simp) ?_
    refine wpAnyS_take (i := 8) (v := .int .u64 m) rfl (by kernel_rfl) (by kernel_rfl) (by kernel_rfl) (by kernel_rfl) (fun _ _ _ h => h) hS0 rfl (fun wx hx => by obtain ⟨s1, s2⟩ := hx; go_simp) ?_
    refine wpAnyS_one (i := 9) rfl (by kernel_rfl) (fun K hK => ?_)
    go_simp
    have KB := KA.alloc (.cells #[.int .u64 m] 157)
    refine hK _ _ (fun _ => And.intro (KB.cell c0) (KB.cell c1)) ?_
    clear hK K
    refine wpAnyS_one (i := 10) rfl (by kernel_rfl) (fun K hK => ?_)
    refine step_append_lock _ (by rfl) _ _ (by rfl) B (.slice la lp.length lc) lp.reverse m (w.alloc (.cells #[.int .i64 8, .int .i64 n, .int .i64 v, .int .i64 wt, .slice a l.length c] 77)).drew (by rfl) (by rfl) (w.heap.size + 1) (by show _ = (w.alloc _).heap.size; simp) (by rfl) (HS.out.row.kept KA) (by simp; omega) (by have := KA.size; omega) ?_
    intro g cap w3 R3 gr3 at3
    obtain ⟨P1, P2, P3, P4, P5, P6⟩ := HS.out.push gr3 at3 R3
    have hS2 := And.intro P3 P4
    refine hK _ _ (fun _ => hS2) ?_
    clear hK K
    refine wpAnyS_one (i := 11) rfl (by kernel_rfl) (fun K hK => ?_)
    go_simp
    refine hK _ _ (fun _ => hS2) ?_
    clear hK K
    refine wpAnyS_take (i := 12) (v := .pointer (some ⟨sb, 1, none⟩)) rfl (by kernel_rfl) (by kernel_rfl) (by kernel_rfl) (by kernel_rfl) (fun _ _ _ h => h) hS2 rfl (fun wx hx => by obtain ⟨s1, s2⟩ := hx; go_simp) ?_
    refine wpAnyS_one (i := 13) rfl (by kernel_rfl) (fun K hK => ?_)
    go_simp
    refine hK _ _ (fun h => absurd rfl h) ?_
    clear hK K
    refine wpAnyS_done (by kernel_rfl) ?_ _
    rw [List.length_reverse] at P1 P2
    have HP1 : Hid (StP B (w3.setCell ⟨sb, 1, none⟩ (.slice (some ⟨g, 0, none⟩) (lp.length + 1) cap)) sb (.slice (some ⟨g, 0, none⟩) (lp.length + 1) cap) m (m :: lp)) := P1
    have HP2 : Hid (Turns (fun k => B ≤ k) w (w3.setCell ⟨sb, 1, none⟩ (.slice (some ⟨g, 0, none⟩) (lp.length + 1) cap))) := P2
    clear P1 P2
    go_wp2_with fail
    go_ret
    exact ⟨HP2.out, .inr ⟨_, _, _, HT.out, rfl, HP1.out⟩⟩

set_option maxHeartbeats 4000000 in
set_option maxRecDepth 10000 in
theorem takes_end (B sb m : Nat) (lv : Value) (lp : List Nat) (a : Option Addr) (c : Nat) (n v wt : Int) (l : List CaseD) (w : World) (hs : StP B w sb lv m lp) (hl : lp.length ≤ 3) :
    Calls Tryz.prog 110 #[.pointer (some ⟨sb, 0, none⟩), .agg #[.int .i64 9, .int .i64 n, .int .i64 v, .int .i64 wt, .slice a l.length c]] w (TakPost B sb m lp ⟨9, n, v, wt, l⟩ w) := by
  have c0 : w.cell? ⟨sb, 0, none⟩ = some (.int .u64 m) := hs.box.cell 0 (by simp)
  have c1 : w.cell? ⟨sb, 1, none⟩ = some lv := hs.box.cell 1 (by simp)
  have f1 := hs.box.frozen 1
  have lb := hs.box.lt.2
  have lB := hs.box.lt.1
  obtain ⟨la, lc, hlv⟩ := hs.row.form
  rw [List.length_reverse] at hlv
  have HS : Hid (StP B w sb lv m lp) := hs
  clear hs
  have KA := ((Kept.refl w).alloc (.cells #[.int .i64 9, .int .i64 n, .int .i64 v, .int .i64 wt, .slice a l.length c] 77))
  cases lp with
  | nil =>
    have HT : Hid (takeM m [] ⟨9, n, v, wt, l⟩ = none) := rfl
    rw [List.length_nil] at hlv
    subst hlv
    go_enter Tryz.func110, Tryz.ntmps110
    go_wp2_with fail
    go_quiet (fail)
    go_wp2_with fail
    go_ret
    exact ⟨turns_B (KA.drewN _), .inl ⟨HT.out, rfl⟩⟩
  | cons x r =>
    have HR := HS.out.row
    rw [hlv] at HR
    have hla : ∃ g, la = some ⟨g, 0, none⟩ := by
      rcases HR.2 with ⟨h1, h2⟩ | ⟨g, cap, cur, h1, _⟩
      · simp at h2
      · exact ⟨g, (Value.slice.inj h1).1⟩
    obtain ⟨g, rfl⟩ := hla
    have hgl : g < w.heap.size := (World.ownsRow.lt HR g rfl).2
    have hgs : g ≠ sb := HS.out.far g (by rw [hlv]; rfl)
    have HR2 : Hid (LRow B w (.slice (some ⟨g, 0, none⟩) (r.length + 1) lc) (r.reverse ++ [x])) := by
      have := HR
      rw [List.reverse_cons] at this
      exact this
    have cx : w.cell? ⟨g, r.length, none⟩ = some (.int .u64 x) := by
      have h := HR2.out
      unfold LRow at h
      rw [List.length_append, List.length_reverse] at h
      have hcc := h.cellAt r.length (by simp)
      rw [hcc]
      simp [lockV]
    have hlc : r.length + 1 ≤ lc := by
      rcases HR2.out.2 with ⟨h1, h2⟩ | ⟨g', cap, cur, h1, _, _, h3, _⟩
      · cases h1
      · rw [(Value.slice.inj h1).2.2]
        simpa using h3
    rw [List.length_cons] at hlv
    subst hlv
    clear HR
    have e1 : (r.length : Int) + 1 - 1 = (r.length : Int) := by omega
    have hl2 : r.length ≤ 2 := by simp at hl; omega
    have hw0 : wrap64 (r.length : Int) = (r.length : Int) := by unfold wrap64; omega
    have b1 : ¬ (r.length : Int) < 0 := by omega
    have b0 : decide ((r.length : Int) < 0) = false := decide_eq_false b1
    have b2 : (r.length : Int) < (r.length : Int) + 1 := by omega
    have b3 : (r.length : Int) ≤ (r.length : Int) + 1 := by omega
    have b4 : (0 : Int) ≤ (r.length : Int) := by omega
    have b5 : (r.length : Int) ≤ (lc : Int) := by omega
    by_cases hx : x = m
    · subst hx
      have HT : Hid (takeM x (x :: r) ⟨9, n, v, wt, l⟩ = some (x, r)) := by show _ = _; unfold takeM; rw [if_neg (by simp), if_neg (by simp), if_neg (by simp), if_pos rfl]; exact if_pos rfl
      have hxx : ((x : Int) != (x : Int)) = false := by simp
      go_enter Tryz.func110, Tryz.ntmps110
      go_wp2_with fail
      go_quiet (fail)
      go_wp2_with fail
      go_ret
      have hk := KA.drewN nq
      have hsw := HS.out.kept hk
      have hrw := HR2.out.kept hk
      generalize (w.alloc (.cells #[.int .i64 9, .int .i64 n, .int .i64 v, .int .i64 wt, .slice a l.length c] 77)).drewN nq = W1 at hk hsw hrw ⊢
      have t1 := turn_set W1 sb 1 (.slice (some ⟨g, 0, none⟩) r.length lc)
      have bx : Box B (W1.setCell ⟨sb, 1, none⟩ (.slice (some ⟨g, 0, none⟩) r.length lc)) 160 sb [.int .u64 x, .slice (some ⟨g, 0, none⟩) r.length lc] := hsw.box.set 1 _
      have rw1 : LRow B (W1.setCell ⟨sb, 1, none⟩ (.slice (some ⟨g, 0, none⟩) r.length lc)) (.slice (some ⟨g, 0, none⟩) r.length lc) r.reverse := by
        unfold LRow at hrw ⊢
        rw [List.length_append, List.length_reverse] at hrw
        have h2 := own_take (r := r.length) hrw (by simp)
        rw [List.length_reverse]
        have h3 : (List.map lockV (r.reverse ++ [x])).take (r.length * 1) = r.reverse.map lockV := by
          rw [Nat.mul_one, List.map_append]
          exact List.take_left' (by simp)
        rw [h3] at h2
        exact owns_turns h2 t1 (fun q hq e => by simp [Value.ownBlock] at hq; omega)
      refine ⟨(turns_B hk).next t1 (fun i _ hi => by show B ≤ i; omega), .inr ⟨_, _, _, HT.out, rfl, bx, rw1, fun q hq => by simp [Value.ownBlock] at hq; omega⟩⟩
    · have HT : Hid (takeM m (x :: r) ⟨9, n, v, wt, l⟩ = none) := by show _ = _; unfold takeM; rw [if_neg (by simp), if_neg (by simp), if_neg (by simp), if_pos rfl]; exact if_neg hx
      have hxx : ((x : Int) != (m : Int)) = true := by simp; omega
      clear hx
      go_enter Tryz.func110, Tryz.ntmps110
      go_wp2_with fail
      go_quiet (fail)
      go_wp2_with fail
      go_ret
      exact ⟨turns_B (KA.drewN _), .inl ⟨HT.out, rfl⟩⟩

set_option maxHeartbeats 4000000 in
theorem takes_other (B sb m : Nat) (lv : Value) (lp : List Nat) (a : Option Addr) (c : Nat) (k n v wt : Int) (l : List CaseD) (w : World) (hs : StP B w sb lv m lp) (hk : k = 1 ∨ k = 4 ∨ k = 5 ∨ k = 6 ∨ k = 7) (hr : Rdy w) :
    Calls Tryz.prog 110 #[.pointer (some ⟨sb, 0, none⟩), .agg #[.int .i64 k, .int .i64 n, .int .i64 v, .int .i64 wt, .slice a l.length c]] w (TakPost B sb m lp ⟨k, n, v, wt, l⟩ w) := by
  have c0 : w.cell? ⟨sb, 0, none⟩ = some (.int .u64 m) := hs.box.cell 0 (by simp)
  have lb := hs.box.lt.2
  have HTO := take_other hk m lp n v wt l
  have KA := ((Kept.refl w).alloc (.cells #[.int .i64 k, .int .i64 n, .int .i64 v, .int .i64 wt, .slice a l.length c] 77))
  have k2 : (k == 2) = false := beq_eq_false_iff_ne.2 (by omega)
  have k3 : (k == 3) = false := beq_eq_false_iff_ne.2 (by omega)
  have k8 : (k == 8) = false := beq_eq_false_iff_ne.2 (by omega)
  have k9 : (k == 9) = false := beq_eq_false_iff_ne.2 (by omega)
  have hwa := waits_any k n v wt a l.length c l _ (hr.kept KA)
  have HS : Hid (StP B w sb lv m lp) := hs
  clear hs hk hr
  by_cases hm : m = 0
  · have HT : Hid (takeM m lp ⟨k, n, v, wt, l⟩ = some (m, lp)) := by show _ = _; rw [HTO]; exact if_pos (.inl hm)
    clear HTO
    subst hm
    go_enter Tryz.func110, Tryz.ntmps110
    go_wp2_with fail
    go_ret
    exact ⟨turns_B KA, .inr ⟨_, _, _, HT.out, rfl, HS.out.kept KA⟩⟩
  · have hne : ((m : Int) == 0) = false := beq_eq_false_iff_ne.2 (by omega)
    cases hq : waitsD ⟨k, n, v, wt, l⟩ with
    | false =>
      have HT : Hid (takeM m lp ⟨k, n, v, wt, l⟩ = some (m, lp)) := by show _ = _; rw [HTO]; exact if_pos (.inr hq)
      rw [hq] at hwa
      clear HTO hq
      go_enter Tryz.func110, Tryz.ntmps110
      go_wp2_with fail
      refine hwa.mono ?_
      rintro e w4 ⟨rfl, t4⟩
      go_wp2_with fail
      go_ret
      exact ⟨turns_B (KA.trans t4), .inr ⟨_, _, _, HT.out, rfl, HS.out.kept (KA.trans t4)⟩⟩
    | true =>
      have HT : Hid (takeM m lp ⟨k, n, v, wt, l⟩ = none) := by show _ = _; rw [HTO]; exact if_neg (by rw [hq]; simp [hm])
      rw [hq] at hwa
      clear HTO hq
      go_enter Tryz.func110, Tryz.ntmps110
      go_wp2_with fail
      refine hwa.mono ?_
      rintro e w4 ⟨rfl, t4⟩
      go_wp2_with fail
      go_ret
      exact ⟨turns_B (KA.trans t4), .inl ⟨HT.out, rfl⟩⟩
/-- takes, of an op that may be. -/
theorem stakes_any (B sb m : Nat) (lv : Value) (lp : List Nat) (a : Option Addr) (c : Nat) (o : OpD) (w : World) (hs : StP B w sb lv m lp) (hm : m < 256) (hl : lp.length ≤ 3) (hk : checkD o = 0) (hr : Rdy w) :
    Calls Tryz.prog 110 #[.pointer (some ⟨sb, 0, none⟩), .agg #[.int .i64 o.kind, .int .i64 o.n, .int .i64 o.v, .int .i64 o.wait, .slice a o.cases.length c]] w (TakPost B sb m lp o w) := by
  have ht := taken_of hk
  obtain ⟨k, n, v, wt, l⟩ := o
  have hkc := kind_cases ht.kind
  have htk := ht.takes
  simp only at hkc htk ⊢
  have hn : k = 2 ∨ k = 3 → n = 0 ∨ n = 1 ∨ n = 2 ∨ n = 3 ∨ n = 4 ∨ n = 5 ∨ n = 6 ∨ n = 7 := by
    intro h
    have : ¬ n < 0 ∧ ¬ 7 < n := by
      rcases h with rfl | rfl
      · simp [takesB, shapeOf] at htk; omega
      · simp [takesB, shapeOf] at htk; omega
    omega
  rcases hkc with rfl | rfl | rfl | rfl | rfl | rfl | rfl | rfl | rfl
  · exact takes_other B sb m lv lp a c 1 n v wt l w hs (by simp) hr
  · rcases hn (.inl rfl) with rfl | rfl | rfl | rfl | rfl | rfl | rfl | rfl
    · exact takes_lock0 B sb m lv lp a c v wt l w hs hm
    · exact takes_lock1 B sb m lv lp a c v wt l w hs hm
    · exact takes_lock2 B sb m lv lp a c v wt l w hs hm
    · exact takes_lock3 B sb m lv lp a c v wt l w hs hm
    · exact takes_lock4 B sb m lv lp a c v wt l w hs hm
    · exact takes_lock5 B sb m lv lp a c v wt l w hs hm
    · exact takes_lock6 B sb m lv lp a c v wt l w hs hm
    · exact takes_lock7 B sb m lv lp a c v wt l w hs hm
  · rcases hn (.inr rfl) with rfl | rfl | rfl | rfl | rfl | rfl | rfl | rfl
    · exact takes_unlock0 B sb m lv lp a c v wt l w hs hm
    · exact takes_unlock1 B sb m lv lp a c v wt l w hs hm
    · exact takes_unlock2 B sb m lv lp a c v wt l w hs hm
    · exact takes_unlock3 B sb m lv lp a c v wt l w hs hm
    · exact takes_unlock4 B sb m lv lp a c v wt l w hs hm
    · exact takes_unlock5 B sb m lv lp a c v wt l w hs hm
    · exact takes_unlock6 B sb m lv lp a c v wt l w hs hm
    · exact takes_unlock7 B sb m lv lp a c v wt l w hs hm
  · exact takes_other B sb m lv lp a c 4 n v wt l w hs (by simp) hr
  · exact takes_other B sb m lv lp a c 5 n v wt l w hs (by simp) hr
  · exact takes_other B sb m lv lp a c 6 n v wt l w hs (by simp) hr
  · exact takes_other B sb m lv lp a c 7 n v wt l w hs (by simp) hr
  · exact takes_loop B sb m lv lp a c n v wt l w hs hl
  · exact takes_end B sb m lv lp a c n v wt l w hs hl
end Go.Proofs.YtlkbphogpbcjfaaGreatDoor
