/- takes. -/
import Derived.ProofKit
import Derived.OpenShut
import Derived.ShutString
import Derived.ChangeOld
import Derived.ChangeArms
import Derived.WideShapes
import Derived.Below
import Derived.Deep.Slices
import Derived.Deep.SlicePairs
import Derived.Test.YtolljdomnohmdabGreatDoorM2
import Derived.Test.YtolljdomnohmdabGreatDoorCas
import Derived.Test.YtolljdomnohmdabGreatDoorCheck
import Derived.Test.YtolljdomnohmdabGreatDoorM3
import Derived.Test.YtolljdomnohmdabGreatDoorM4
import Derived.Test.YtolljdomnohmdabGreatDoorM0
import Derived.Test.YtolljdomnohmdabGreatDoorM1
import Derived.Test.YtolljdomnohmdabGreatDoorOpT
import Derived.Test.YtolljdomnohmdabGreatDoorPar
import Derived.Test.YtolljdomnohmdabGreatDoorM7
import Derived.Test.YtolljdomnohmdabGreatDoorTxt
import Derived.Test.YtolljdomnohmdabGreatDoorRWrd
import Derived.Test.YtolljdomnohmdabGreatDoorM5
import Derived.Test.YtolljdomnohmdabGreatDoorRead
import Derived.Test.YtolljdomnohmdabGreatDoorM8
import Derived.Test.YtolljdomnohmdabGreatDoorTrn
import Derived.Test.YtolljdomnohmdabGreatDoorM10
namespace Go.Proofs.YtolljdomnohmdabGreatDoor
open Go.RowKit

theorem bits_or : ∀ k : Fin 8, ∀ m : Fin 256, m.1 < 2 ^ k.1 → bits BinOp.or IntKind.u64 (m.1 : Int) ((2 ^ k.1 : Nat) : Int) = ((m.1 + 2 ^ k.1 : Nat) : Int) := by decide +kernel
theorem bits_not : ∀ k : Fin 8, ∀ m : Fin 256, 2 ^ k.1 ≤ m.1 → bits BinOp.andNot IntKind.u64 (m.1 : Int) ((2 ^ k.1 : Nat) : Int) = ((m.1 - 2 ^ k.1 : Nat) : Int) ∨ 2 * 2 ^ k.1 ≤ m.1 := by decide +kernel
/-- What takes leaves. -/
def TakPost (B sb m : Nat) (lp : List Nat) (o : OpD) (w : World) (e : Ending) (w' : World) : Prop :=
  Turns (fun k => B ≤ k) w w' ∧ ((takeM m lp o = none ∧ e = .returned (.bool false)) ∨ ∃ m' lp' lv', takeM m lp o = some (m', lp') ∧ e = .returned (.bool true) ∧ StP B w' sb lv' m' lp')
theorem turns_B {B : Nat} {w w' : World} (k : Kept w w') : Turns (fun k => B ≤ k) w w' := k.turns.mono (fun _ _ h => h.elim)
/-- The state behind a store of the locks held. -/
theorem StP.hold {B : Nat} {w : World} {sb : Nat} {lv : Value} {m m' : Nat} {lp : List Nat} (h : StP B w sb lv m lp) (o : Obj) : StP B ((w.setCell ⟨sb, 0, none⟩ (.int .u64 m')).alloc o).drew.drew sb lv m' lp := by
  have t := turn_set w sb 0 (.int .u64 m')
  have b : Box B (w.setCell ⟨sb, 0, none⟩ (.int .u64 m')) 169 sb [.int .u64 m', lv] := h.box.set 0 _
  have r := h.row.turns t (fun q hq e => h.far q hq e)
  have k : Kept (w.setCell ⟨sb, 0, none⟩ (.int .u64 m')) ((w.setCell ⟨sb, 0, none⟩ (.int .u64 m')).alloc o).drew.drew := (((Kept.refl _).alloc o).drew).drew
  exact ⟨b.kept k, r.kept k, h.far⟩
theorem hold_turns {B : Nat} {w : World} {sb : Nat} (hB : B ≤ sb) (v : Value) (o : Obj) : Turns (fun k => B ≤ k) w ((w.setCell ⟨sb, 0, none⟩ v).alloc o).drew.drew :=
  ((((Turns.refl _ w).setCell (p := ⟨sb, 0, none⟩) hB v).alloc o).drew).drew
/-- One lock behind a row of locks. -/
theorem step_append_lock (w : World) {ops : Array Oper} {o : Oper} {a : Act} {K : Act → World → Prop} {Q : Exit → Act → World → Prop} {E : Prop} (hgd : o.guard = none) (s x : Operand)
    (ho : o.op = .call { callee := .builtin .append, args := #[s, x], argTypes := #[167, 167] })
    (base : Nat) (v1 : Value) (l1 : List Nat) (y : Nat) (W : World) (hw1 : w = W.alloc (.cells #[.int .u64 y] 166)) (hs : a.eval s = v1) (nb : Nat) (hnb : nb = W.heap.size) (hx : a.eval x = .slice (some ⟨nb, 0, none⟩) 1 1) (h1 : LRow base W v1 l1) (hl : l1.length ≤ 1000000) (hB : base ≤ W.heap.size)
    (h : ∀ g cap w', LRow base w' (.slice (some ⟨g, 0, none⟩) (l1.length + 1) cap) (l1 ++ [y]) → w.grownBy w' v1.ownBlock → (v1.ownBlock = some g ∨ W.heap.size < g) → K (a.put o.dst (.slice (some ⟨g, 0, none⟩) (l1.length + 1) cap)) w') :
    if Region.wanted o (yielded ops a.tmps) = true then Oper.wp Tryz.prog o a w K Q else E := by
  have hw : Region.wanted o (yielded ops a.tmps) = true := by simp [Region.wanted, hgd]
  rw [if_pos hw]
  subst hw1
  subst hnb
  obtain ⟨i, hi, hz0, hz1, hz2⟩ := info_parts (show (Tryz.prog.info? 166).map (fun i => (i.zero, i.size, i.bytes)) = some (some (.int .u64 0), 1, 8) by kernel_rfl)
  have hc : ∀ j u, ([y].map lockV)[j]? = some u → (W.alloc (.cells #[.int .u64 y] 166)).cell? (Addr.add ⟨W.heap.size, 0, none⟩ j) = some u := by
    intro j u hu
    rw [Addr.add_lit, Nat.zero_add, World.cell?_alloc_at _ _ _ _ rfl]
    simpa [lockV] using hu
  have h1' : (W.alloc (.cells #[.int .u64 y] 166)).ownsRow base 166 1 v1 l1.length (l1.map lockV) := World.ownsRow.alloc h1 _
  have hB' := le_alloc (.cells #[.int .u64 y] 166) hB
  have ones : ∀ u ∈ [y].map lockV, u.oneCell' = true := by
    intro u hu
    simp only [List.map_cons, List.map_nil, List.mem_singleton] at hu
    subst hu
    rfl
  obtain ⟨v', w', hr, k1, k2, k3, k4⟩ := run_append_own_at (P := Tryz.prog) (W.alloc (.cells #[.int .u64 y] 166)) base 167 o.type 166 i _ 1 8 Tryz.underlying167 hi hz0 hz1 hz2 rfl (by omega) _ l1.length (l1.map lockV) h1' ⟨W.heap.size, 0, none⟩ 1 1 ([y].map lockV) (by simp) hc ones (by unfold maxLen; omega) (by omega) hB'
  obtain ⟨g, cap, rfl⟩ := own_form k1 (fun e => by have := k3.1 e; have := this.2; omega)
  unfold Oper.wp
  simp [execOp, ho, resolve, invoke, builtin, hs, hx, hr, Result.andThen]
  refine h g cap w' ?_ k2 ?_
  · unfold LRow
    rw [List.length_append, List.map_append]
    exact k1
  · rcases k4 with k4 | k4
    · exact .inl k4.symm
    · right; simp [Value.ownBlock] at k4; omega

set_option maxHeartbeats 2000000 in
theorem takes_lock0 (B sb m : Nat) (lv : Value) (lp : List Nat) (a : Option Addr) (c : Nat) (v wt : Int) (l : List CaseD) (w : World) (hs : StP B w sb lv m lp) (hm : m < 256) :
    Calls Tryz.prog 110 #[.pointer (some ⟨sb, 0, none⟩), .agg #[.int .i64 2, .int .i64 0, .int .i64 v, .int .i64 wt, .slice a l.length c]] w (TakPost B sb m lp ⟨2, 0, v, wt, l⟩ w) := by
  have c0 : w.cell? ⟨sb, 0, none⟩ = some (.int .u64 m) := hs.box.cell 0 (by simp)
  have f0 := hs.box.frozen 0
  have lb := hs.box.lt.2
  have lB := hs.box.lt.1
  by_cases h2 : m < 2 ^ 0
  · have hor : bits BinOp.or IntKind.u64 (m : Int) 1 = (m : Int) + 1 := bits_or ⟨0, by omega⟩ ⟨m, hm⟩ h2
    have HT : Hid (takeM m lp ⟨2, 0, v, wt, l⟩ = some (m + 1, lp)) := by show _ = _; unfold takeM; rw [if_pos rfl]; exact if_pos h2
    go_enter Tryz.func110, Tryz.ntmps110
    go_wp2_with fail
    go_region_held3 (fun w' => w'.cell? ⟨sb, 0, none⟩ = some (.int .u64 m) ∧ w'.cell? ⟨w.heap.size, 1, none⟩ = some (.int .i64 0)) (go_keep) (first | (go_at_call 124; refine (above_any m 0 hm (by omega) _).mono ?_; rintro e w4 ⟨rfl, hw4⟩; subst w4; rw [decide_eq_true h2]) | fail)
    go_wp2_with fail
    go_region
    go_wp2_with fail
    go_ret
    exact ⟨hold_turns lB _ _, .inr ⟨_, _, _, HT.out, rfl, hs.hold _⟩⟩
  · have HT : Hid (takeM m lp ⟨2, 0, v, wt, l⟩ = none) := by show _ = _; unfold takeM; rw [if_pos rfl]; exact if_neg h2
    go_enter Tryz.func110, Tryz.ntmps110
    go_wp2_with fail
    go_region_held3 (fun w' => w'.cell? ⟨sb, 0, none⟩ = some (.int .u64 m) ∧ w'.cell? ⟨w.heap.size, 1, none⟩ = some (.int .i64 0)) (go_keep) (first | (go_at_call 124; refine (above_any m 0 hm (by omega) _).mono ?_; rintro e w4 ⟨rfl, hw4⟩; subst w4; rw [decide_eq_false h2]) | fail)
    go_wp2_with fail
    go_ret
    exact ⟨turns_B (((Kept.refl w).alloc _).drew), .inl ⟨HT.out, rfl⟩⟩
set_option maxHeartbeats 2000000 in
theorem takes_unlock0 (B sb m : Nat) (lv : Value) (lp : List Nat) (a : Option Addr) (c : Nat) (v wt : Int) (l : List CaseD) (w : World) (hs : StP B w sb lv m lp) (hm : m < 256) :
    Calls Tryz.prog 110 #[.pointer (some ⟨sb, 0, none⟩), .agg #[.int .i64 3, .int .i64 0, .int .i64 v, .int .i64 wt, .slice a l.length c]] w (TakPost B sb m lp ⟨3, 0, v, wt, l⟩ w) := by
  have c0 : w.cell? ⟨sb, 0, none⟩ = some (.int .u64 m) := hs.box.cell 0 (by simp)
  have f0 := hs.box.frozen 0
  have lb := hs.box.lt.2
  have lB := hs.box.lt.1
  by_cases h2 : 2 ^ 0 ≤ m ∧ m < 2 * 2 ^ 0
  · have hor : bits BinOp.andNot IntKind.u64 (m : Int) 1 = ((m - 1 : Nat) : Int) := (bits_not ⟨0, by omega⟩ ⟨m, hm⟩ h2.1).elim id (fun h => absurd h2.2 (by simp only at h; omega))
    have HT : Hid (takeM m lp ⟨3, 0, v, wt, l⟩ = some (m - 1, lp)) := by show _ = _; unfold takeM; rw [if_neg (by simp), if_pos rfl]; exact if_pos h2
    go_enter Tryz.func110, Tryz.ntmps110
    go_wp2_with fail
    go_region_held3 (fun w' => w'.cell? ⟨sb, 0, none⟩ = some (.int .u64 m) ∧ w'.cell? ⟨w.heap.size, 1, none⟩ = some (.int .i64 0)) (go_keep) (first | (go_at_call 125; refine (last_any m 0 hm (by omega) _).mono ?_; rintro e w4 ⟨rfl, hw4⟩; subst w4; rw [decide_eq_true h2]) | fail)
    go_wp2_with fail
    go_region
    go_wp2_with fail
    go_ret
    exact ⟨hold_turns lB _ _, .inr ⟨_, _, _, HT.out, rfl, hs.hold _⟩⟩
  · have HT : Hid (takeM m lp ⟨3, 0, v, wt, l⟩ = none) := by show _ = _; unfold takeM; rw [if_neg (by simp), if_pos rfl]; exact if_neg h2
    go_enter Tryz.func110, Tryz.ntmps110
    go_wp2_with fail
    go_region_held3 (fun w' => w'.cell? ⟨sb, 0, none⟩ = some (.int .u64 m) ∧ w'.cell? ⟨w.heap.size, 1, none⟩ = some (.int .i64 0)) (go_keep) (first | (go_at_call 125; refine (last_any m 0 hm (by omega) _).mono ?_; rintro e w4 ⟨rfl, hw4⟩; subst w4; rw [decide_eq_false h2]) | fail)
    go_wp2_with fail
    go_ret
    exact ⟨turns_B (((Kept.refl w).alloc _).drew), .inl ⟨HT.out, rfl⟩⟩
set_option maxHeartbeats 2000000 in
theorem takes_lock1 (B sb m : Nat) (lv : Value) (lp : List Nat) (a : Option Addr) (c : Nat) (v wt : Int) (l : List CaseD) (w : World) (hs : StP B w sb lv m lp) (hm : m < 256) :
    Calls Tryz.prog 110 #[.pointer (some ⟨sb, 0, none⟩), .agg #[.int .i64 2, .int .i64 1, .int .i64 v, .int .i64 wt, .slice a l.length c]] w (TakPost B sb m lp ⟨2, 1, v, wt, l⟩ w) := by
  have c0 : w.cell? ⟨sb, 0, none⟩ = some (.int .u64 m) := hs.box.cell 0 (by simp)
  have f0 := hs.box.frozen 0
  have lb := hs.box.lt.2
  have lB := hs.box.lt.1
  by_cases h2 : m < 2 ^ 1
  · have hor : bits BinOp.or IntKind.u64 (m : Int) 2 = (m : Int) + 2 := bits_or ⟨1, by omega⟩ ⟨m, hm⟩ h2
    have HT : Hid (takeM m lp ⟨2, 1, v, wt, l⟩ = some (m + 2, lp)) := by show _ = _; unfold takeM; rw [if_pos rfl]; exact if_pos h2
    go_enter Tryz.func110, Tryz.ntmps110
    go_wp2_with fail
    go_region_held3 (fun w' => w'.cell? ⟨sb, 0, none⟩ = some (.int .u64 m) ∧ w'.cell? ⟨w.heap.size, 1, none⟩ = some (.int .i64 1)) (go_keep) (first | (go_at_call 124; refine (above_any m 1 hm (by omega) _).mono ?_; rintro e w4 ⟨rfl, hw4⟩; subst w4; rw [decide_eq_true h2]) | fail)
    go_wp2_with fail
    go_region
    go_wp2_with fail
    go_ret
    exact ⟨hold_turns lB _ _, .inr ⟨_, _, _, HT.out, rfl, hs.hold _⟩⟩
  · have HT : Hid (takeM m lp ⟨2, 1, v, wt, l⟩ = none) := by show _ = _; unfold takeM; rw [if_pos rfl]; exact if_neg h2
    go_enter Tryz.func110, Tryz.ntmps110
    go_wp2_with fail
    go_region_held3 (fun w' => w'.cell? ⟨sb, 0, none⟩ = some (.int .u64 m) ∧ w'.cell? ⟨w.heap.size, 1, none⟩ = some (.int .i64 1)) (go_keep) (first | (go_at_call 124; refine (above_any m 1 hm (by omega) _).mono ?_; rintro e w4 ⟨rfl, hw4⟩; subst w4; rw [decide_eq_false h2]) | fail)
    go_wp2_with fail
    go_ret
    exact ⟨turns_B (((Kept.refl w).alloc _).drew), .inl ⟨HT.out, rfl⟩⟩
set_option maxHeartbeats 2000000 in
theorem takes_unlock1 (B sb m : Nat) (lv : Value) (lp : List Nat) (a : Option Addr) (c : Nat) (v wt : Int) (l : List CaseD) (w : World) (hs : StP B w sb lv m lp) (hm : m < 256) :
    Calls Tryz.prog 110 #[.pointer (some ⟨sb, 0, none⟩), .agg #[.int .i64 3, .int .i64 1, .int .i64 v, .int .i64 wt, .slice a l.length c]] w (TakPost B sb m lp ⟨3, 1, v, wt, l⟩ w) := by
  have c0 : w.cell? ⟨sb, 0, none⟩ = some (.int .u64 m) := hs.box.cell 0 (by simp)
  have f0 := hs.box.frozen 0
  have lb := hs.box.lt.2
  have lB := hs.box.lt.1
  by_cases h2 : 2 ^ 1 ≤ m ∧ m < 2 * 2 ^ 1
  · have hor : bits BinOp.andNot IntKind.u64 (m : Int) 2 = ((m - 2 : Nat) : Int) := (bits_not ⟨1, by omega⟩ ⟨m, hm⟩ h2.1).elim id (fun h => absurd h2.2 (by simp only at h; omega))
    have HT : Hid (takeM m lp ⟨3, 1, v, wt, l⟩ = some (m - 2, lp)) := by show _ = _; unfold takeM; rw [if_neg (by simp), if_pos rfl]; exact if_pos h2
    go_enter Tryz.func110, Tryz.ntmps110
    go_wp2_with fail
    go_region_held3 (fun w' => w'.cell? ⟨sb, 0, none⟩ = some (.int .u64 m) ∧ w'.cell? ⟨w.heap.size, 1, none⟩ = some (.int .i64 1)) (go_keep) (first | (go_at_call 125; refine (last_any m 1 hm (by omega) _).mono ?_; rintro e w4 ⟨rfl, hw4⟩; subst w4; rw [decide_eq_true h2]) | fail)
    go_wp2_with fail
    go_region
    go_wp2_with fail
    go_ret
    exact ⟨hold_turns lB _ _, .inr ⟨_, _, _, HT.out, rfl, hs.hold _⟩⟩
  · have HT : Hid (takeM m lp ⟨3, 1, v, wt, l⟩ = none) := by show _ = _; unfold takeM; rw [if_neg (by simp), if_pos rfl]; exact if_neg h2
    go_enter Tryz.func110, Tryz.ntmps110
    go_wp2_with fail
    go_region_held3 (fun w' => w'.cell? ⟨sb, 0, none⟩ = some (.int .u64 m) ∧ w'.cell? ⟨w.heap.size, 1, none⟩ = some (.int .i64 1)) (go_keep) (first | (go_at_call 125; refine (last_any m 1 hm (by omega) _).mono ?_; rintro e w4 ⟨rfl, hw4⟩; subst w4; rw [decide_eq_false h2]) | fail)
    go_wp2_with fail
    go_ret
    exact ⟨turns_B (((Kept.refl w).alloc _).drew), .inl ⟨HT.out, rfl⟩⟩
set_option maxHeartbeats 2000000 in
theorem takes_lock2 (B sb m : Nat) (lv : Value) (lp : List Nat) (a : Option Addr) (c : Nat) (v wt : Int) (l : List CaseD) (w : World) (hs : StP B w sb lv m lp) (hm : m < 256) :
    Calls Tryz.prog 110 #[.pointer (some ⟨sb, 0, none⟩), .agg #[.int .i64 2, .int .i64 2, .int .i64 v, .int .i64 wt, .slice a l.length c]] w (TakPost B sb m lp ⟨2, 2, v, wt, l⟩ w) := by
  have c0 : w.cell? ⟨sb, 0, none⟩ = some (.int .u64 m) := hs.box.cell 0 (by simp)
  have f0 := hs.box.frozen 0
  have lb := hs.box.lt.2
  have lB := hs.box.lt.1
  by_cases h2 : m < 2 ^ 2
  · have hor : bits BinOp.or IntKind.u64 (m : Int) 4 = (m : Int) + 4 := bits_or ⟨2, by omega⟩ ⟨m, hm⟩ h2
    have HT : Hid (takeM m lp ⟨2, 2, v, wt, l⟩ = some (m + 4, lp)) := by show _ = _; unfold takeM; rw [if_pos rfl]; exact if_pos h2
    go_enter Tryz.func110, Tryz.ntmps110
    go_wp2_with fail
    go_region_held3 (fun w' => w'.cell? ⟨sb, 0, none⟩ = some (.int .u64 m) ∧ w'.cell? ⟨w.heap.size, 1, none⟩ = some (.int .i64 2)) (go_keep) (first | (go_at_call 124; refine (above_any m 2 hm (by omega) _).mono ?_; rintro e w4 ⟨rfl, hw4⟩; subst w4; rw [decide_eq_true h2]) | fail)
    go_wp2_with fail
    go_region
    go_wp2_with fail
    go_ret
    exact ⟨hold_turns lB _ _, .inr ⟨_, _, _, HT.out, rfl, hs.hold _⟩⟩
  · have HT : Hid (takeM m lp ⟨2, 2, v, wt, l⟩ = none) := by show _ = _; unfold takeM; rw [if_pos rfl]; exact if_neg h2
    go_enter Tryz.func110, Tryz.ntmps110
    go_wp2_with fail
    go_region_held3 (fun w' => w'.cell? ⟨sb, 0, none⟩ = some (.int .u64 m) ∧ w'.cell? ⟨w.heap.size, 1, none⟩ = some (.int .i64 2)) (go_keep) (first | (go_at_call 124; refine (above_any m 2 hm (by omega) _).mono ?_; rintro e w4 ⟨rfl, hw4⟩; subst w4; rw [decide_eq_false h2]) | fail)
    go_wp2_with fail
    go_ret
    exact ⟨turns_B (((Kept.refl w).alloc _).drew), .inl ⟨HT.out, rfl⟩⟩
set_option maxHeartbeats 2000000 in
theorem takes_unlock2 (B sb m : Nat) (lv : Value) (lp : List Nat) (a : Option Addr) (c : Nat) (v wt : Int) (l : List CaseD) (w : World) (hs : StP B w sb lv m lp) (hm : m < 256) :
    Calls Tryz.prog 110 #[.pointer (some ⟨sb, 0, none⟩), .agg #[.int .i64 3, .int .i64 2, .int .i64 v, .int .i64 wt, .slice a l.length c]] w (TakPost B sb m lp ⟨3, 2, v, wt, l⟩ w) := by
  have c0 : w.cell? ⟨sb, 0, none⟩ = some (.int .u64 m) := hs.box.cell 0 (by simp)
  have f0 := hs.box.frozen 0
  have lb := hs.box.lt.2
  have lB := hs.box.lt.1
  by_cases h2 : 2 ^ 2 ≤ m ∧ m < 2 * 2 ^ 2
  · have hor : bits BinOp.andNot IntKind.u64 (m : Int) 4 = ((m - 4 : Nat) : Int) := (bits_not ⟨2, by omega⟩ ⟨m, hm⟩ h2.1).elim id (fun h => absurd h2.2 (by simp only at h; omega))
    have HT : Hid (takeM m lp ⟨3, 2, v, wt, l⟩ = some (m - 4, lp)) := by show _ = _; unfold takeM; rw [if_neg (by simp), if_pos rfl]; exact if_pos h2
    go_enter Tryz.func110, Tryz.ntmps110
    go_wp2_with fail
    go_region_held3 (fun w' => w'.cell? ⟨sb, 0, none⟩ = some (.int .u64 m) ∧ w'.cell? ⟨w.heap.size, 1, none⟩ = some (.int .i64 2)) (go_keep) (first | (go_at_call 125; refine (last_any m 2 hm (by omega) _).mono ?_; rintro e w4 ⟨rfl, hw4⟩; subst w4; rw [decide_eq_true h2]) | fail)
    go_wp2_with fail
    go_region
    go_wp2_with fail
    go_ret
    exact ⟨hold_turns lB _ _, .inr ⟨_, _, _, HT.out, rfl, hs.hold _⟩⟩
  · have HT : Hid (takeM m lp ⟨3, 2, v, wt, l⟩ = none) := by show _ = _; unfold takeM; rw [if_neg (by simp), if_pos rfl]; exact if_neg h2
    go_enter Tryz.func110, Tryz.ntmps110
    go_wp2_with fail
    go_region_held3 (fun w' => w'.cell? ⟨sb, 0, none⟩ = some (.int .u64 m) ∧ w'.cell? ⟨w.heap.size, 1, none⟩ = some (.int .i64 2)) (go_keep) (first | (go_at_call 125; refine (last_any m 2 hm (by omega) _).mono ?_; rintro e w4 ⟨rfl, hw4⟩; subst w4; rw [decide_eq_false h2]) | fail)
    go_wp2_with fail
    go_ret
    exact ⟨turns_B (((Kept.refl w).alloc _).drew), .inl ⟨HT.out, rfl⟩⟩
set_option maxHeartbeats 2000000 in
theorem takes_lock3 (B sb m : Nat) (lv : Value) (lp : List Nat) (a : Option Addr) (c : Nat) (v wt : Int) (l : List CaseD) (w : World) (hs : StP B w sb lv m lp) (hm : m < 256) :
    Calls Tryz.prog 110 #[.pointer (some ⟨sb, 0, none⟩), .agg #[.int .i64 2, .int .i64 3, .int .i64 v, .int .i64 wt, .slice a l.length c]] w (TakPost B sb m lp ⟨2, 3, v, wt, l⟩ w) := by
  have c0 : w.cell? ⟨sb, 0, none⟩ = some (.int .u64 m) := hs.box.cell 0 (by simp)
  have f0 := hs.box.frozen 0
  have lb := hs.box.lt.2
  have lB := hs.box.lt.1
  by_cases h2 : m < 2 ^ 3
  · have hor : bits BinOp.or IntKind.u64 (m : Int) 8 = (m : Int) + 8 := bits_or ⟨3, by omega⟩ ⟨m, hm⟩ h2
    have HT : Hid (takeM m lp ⟨2, 3, v, wt, l⟩ = some (m + 8, lp)) := by show _ = _; unfold takeM; rw [if_pos rfl]; exact if_pos h2
    go_enter Tryz.func110, Tryz.ntmps110
    go_wp2_with fail
    go_region_held3 (fun w' => w'.cell? ⟨sb, 0, none⟩ = some (.int .u64 m) ∧ w'.cell? ⟨w.heap.size, 1, none⟩ = some (.int .i64 3)) (go_keep) (first | (go_at_call 124; refine (above_any m 3 hm (by omega) _).mono ?_; rintro e w4 ⟨rfl, hw4⟩; subst w4; rw [decide_eq_true h2]) | fail)
    go_wp2_with fail
    go_region
    go_wp2_with fail
    go_ret
    exact ⟨hold_turns lB _ _, .inr ⟨_, _, _, HT.out, rfl, hs.hold _⟩⟩
  · have HT : Hid (takeM m lp ⟨2, 3, v, wt, l⟩ = none) := by show _ = _; unfold takeM; rw [if_pos rfl]; exact if_neg h2
    go_enter Tryz.func110, Tryz.ntmps110
    go_wp2_with fail
    go_region_held3 (fun w' => w'.cell? ⟨sb, 0, none⟩ = some (.int .u64 m) ∧ w'.cell? ⟨w.heap.size, 1, none⟩ = some (.int .i64 3)) (go_keep) (first | (go_at_call 124; refine (above_any m 3 hm (by omega) _).mono ?_; rintro e w4 ⟨rfl, hw4⟩; subst w4; rw [decide_eq_false h2]) | fail)
    go_wp2_with fail
    go_ret
    exact ⟨turns_B (((Kept.refl w).alloc _).drew), .inl ⟨HT.out, rfl⟩⟩
set_option maxHeartbeats 2000000 in
theorem takes_unlock3 (B sb m : Nat) (lv : Value) (lp : List Nat) (a : Option Addr) (c : Nat) (v wt : Int) (l : List CaseD) (w : World) (hs : StP B w sb lv m lp) (hm : m < 256) :
    Calls Tryz.prog 110 #[.pointer (some ⟨sb, 0, none⟩), .agg #[.int .i64 3, .int .i64 3, .int .i64 v, .int .i64 wt, .slice a l.length c]] w (TakPost B sb m lp ⟨3, 3, v, wt, l⟩ w) := by
  have c0 : w.cell? ⟨sb, 0, none⟩ = some (.int .u64 m) := hs.box.cell 0 (by simp)
  have f0 := hs.box.frozen 0
  have lb := hs.box.lt.2
  have lB := hs.box.lt.1
  by_cases h2 : 2 ^ 3 ≤ m ∧ m < 2 * 2 ^ 3
  · have hor : bits BinOp.andNot IntKind.u64 (m : Int) 8 = ((m - 8 : Nat) : Int) := (bits_not ⟨3, by omega⟩ ⟨m, hm⟩ h2.1).elim id (fun h => absurd h2.2 (by simp only at h; omega))
    have HT : Hid (takeM m lp ⟨3, 3, v, wt, l⟩ = some (m - 8, lp)) := by show _ = _; unfold takeM; rw [if_neg (by simp), if_pos rfl]; exact if_pos h2
    go_enter Tryz.func110, Tryz.ntmps110
    go_wp2_with fail
    go_region_held3 (fun w' => w'.cell? ⟨sb, 0, none⟩ = some (.int .u64 m) ∧ w'.cell? ⟨w.heap.size, 1, none⟩ = some (.int .i64 3)) (go_keep) (first | (go_at_call 125; refine (last_any m 3 hm (by omega) _).mono ?_; rintro e w4 ⟨rfl, hw4⟩; subst w4; rw [decide_eq_true h2]) | fail)
    go_wp2_with fail
    go_region
    go_wp2_with fail
    go_ret
    exact ⟨hold_turns lB _ _, .inr ⟨_, _, _, HT.out, rfl, hs.hold _⟩⟩
  · have HT : Hid (takeM m lp ⟨3, 3, v, wt, l⟩ = none) := by show _ = _; unfold takeM; rw [if_neg (by simp), if_pos rfl]; exact if_neg h2
    go_enter Tryz.func110, Tryz.ntmps110
    go_wp2_with fail
    go_region_held3 (fun w' => w'.cell? ⟨sb, 0, none⟩ = some (.int .u64 m) ∧ w'.cell? ⟨w.heap.size, 1, none⟩ = some (.int .i64 3)) (go_keep) (first | (go_at_call 125; refine (last_any m 3 hm (by omega) _).mono ?_; rintro e w4 ⟨rfl, hw4⟩; subst w4; rw [decide_eq_false h2]) | fail)
    go_wp2_with fail
    go_ret
    exact ⟨turns_B (((Kept.refl w).alloc _).drew), .inl ⟨HT.out, rfl⟩⟩
set_option maxHeartbeats 2000000 in
theorem takes_lock4 (B sb m : Nat) (lv : Value) (lp : List Nat) (a : Option Addr) (c : Nat) (v wt : Int) (l : List CaseD) (w : World) (hs : StP B w sb lv m lp) (hm : m < 256) :
    Calls Tryz.prog 110 #[.pointer (some ⟨sb, 0, none⟩), .agg #[.int .i64 2, .int .i64 4, .int .i64 v, .int .i64 wt, .slice a l.length c]] w (TakPost B sb m lp ⟨2, 4, v, wt, l⟩ w) := by
  have c0 : w.cell? ⟨sb, 0, none⟩ = some (.int .u64 m) := hs.box.cell 0 (by simp)
  have f0 := hs.box.frozen 0
  have lb := hs.box.lt.2
  have lB := hs.box.lt.1
  by_cases h2 : m < 2 ^ 4
  · have hor : bits BinOp.or IntKind.u64 (m : Int) 16 = (m : Int) + 16 := bits_or ⟨4, by omega⟩ ⟨m, hm⟩ h2
    have HT : Hid (takeM m lp ⟨2, 4, v, wt, l⟩ = some (m + 16, lp)) := by show _ = _; unfold takeM; rw [if_pos rfl]; exact if_pos h2
    go_enter Tryz.func110, Tryz.ntmps110
    go_wp2_with fail
    go_region_held3 (fun w' => w'.cell? ⟨sb, 0, none⟩ = some (.int .u64 m) ∧ w'.cell? ⟨w.heap.size, 1, none⟩ = some (.int .i64 4)) (go_keep) (first | (go_at_call 124; refine (above_any m 4 hm (by omega) _).mono ?_; rintro e w4 ⟨rfl, hw4⟩; subst w4; rw [decide_eq_true h2]) | fail)
    go_wp2_with fail
    go_region
    go_wp2_with fail
    go_ret
    exact ⟨hold_turns lB _ _, .inr ⟨_, _, _, HT.out, rfl, hs.hold _⟩⟩
  · have HT : Hid (takeM m lp ⟨2, 4, v, wt, l⟩ = none) := by show _ = _; unfold takeM; rw [if_pos rfl]; exact if_neg h2
    go_enter Tryz.func110, Tryz.ntmps110
    go_wp2_with fail
    go_region_held3 (fun w' => w'.cell? ⟨sb, 0, none⟩ = some (.int .u64 m) ∧ w'.cell? ⟨w.heap.size, 1, none⟩ = some (.int .i64 4)) (go_keep) (first | (go_at_call 124; refine (above_any m 4 hm (by omega) _).mono ?_; rintro e w4 ⟨rfl, hw4⟩; subst w4; rw [decide_eq_false h2]) | fail)
    go_wp2_with fail
    go_ret
    exact ⟨turns_B (((Kept.refl w).alloc _).drew), .inl ⟨HT.out, rfl⟩⟩
set_option maxHeartbeats 2000000 in
theorem takes_unlock4 (B sb m : Nat) (lv : Value) (lp : List Nat) (a : Option Addr) (c : Nat) (v wt : Int) (l : List CaseD) (w : World) (hs : StP B w sb lv m lp) (hm : m < 256) :
    Calls Tryz.prog 110 #[.pointer (some ⟨sb, 0, none⟩), .agg #[.int .i64 3, .int .i64 4, .int .i64 v, .int .i64 wt, .slice a l.length c]] w (TakPost B sb m lp ⟨3, 4, v, wt, l⟩ w) := by
  have c0 : w.cell? ⟨sb, 0, none⟩ = some (.int .u64 m) := hs.box.cell 0 (by simp)
  have f0 := hs.box.frozen 0
  have lb := hs.box.lt.2
  have lB := hs.box.lt.1
  by_cases h2 : 2 ^ 4 ≤ m ∧ m < 2 * 2 ^ 4
  · have hor : bits BinOp.andNot IntKind.u64 (m : Int) 16 = ((m - 16 : Nat) : Int) := (bits_not ⟨4, by omega⟩ ⟨m, hm⟩ h2.1).elim id (fun h => absurd h2.2 (by simp only at h; omega))
    have HT : Hid (takeM m lp ⟨3, 4, v, wt, l⟩ = some (m - 16, lp)) := by show _ = _; unfold takeM; rw [if_neg (by simp), if_pos rfl]; exact if_pos h2
    go_enter Tryz.func110, Tryz.ntmps110
    go_wp2_with fail
    go_region_held3 (fun w' => w'.cell? ⟨sb, 0, none⟩ = some (.int .u64 m) ∧ w'.cell? ⟨w.heap.size, 1, none⟩ = some (.int .i64 4)) (go_keep) (first | (go_at_call 125; refine (last_any m 4 hm (by omega) _).mono ?_; rintro e w4 ⟨rfl, hw4⟩; subst w4; rw [decide_eq_true h2]) | fail)
    go_wp2_with fail
    go_region
    go_wp2_with fail
    go_ret
    exact ⟨hold_turns lB _ _, .inr ⟨_, _, _, HT.out, rfl, hs.hold _⟩⟩
  · have HT : Hid (takeM m lp ⟨3, 4, v, wt, l⟩ = none) := by show _ = _; unfold takeM; rw [if_neg (by simp), if_pos rfl]; exact if_neg h2
    go_enter Tryz.func110, Tryz.ntmps110
    go_wp2_with fail
    go_region_held3 (fun w' => w'.cell? ⟨sb, 0, none⟩ = some (.int .u64 m) ∧ w'.cell? ⟨w.heap.size, 1, none⟩ = some (.int .i64 4)) (go_keep) (first | (go_at_call 125; refine (last_any m 4 hm (by omega) _).mono ?_; rintro e w4 ⟨rfl, hw4⟩; subst w4; rw [decide_eq_false h2]) | fail)
    go_wp2_with fail
    go_ret
    exact ⟨turns_B (((Kept.refl w).alloc _).drew), .inl ⟨HT.out, rfl⟩⟩
set_option maxHeartbeats 2000000 in
theorem takes_lock5 (B sb m : Nat) (lv : Value) (lp : List Nat) (a : Option Addr) (c : Nat) (v wt : Int) (l : List CaseD) (w : World) (hs : StP B w sb lv m lp) (hm : m < 256) :
    Calls Tryz.prog 110 #[.pointer (some ⟨sb, 0, none⟩), .agg #[.int .i64 2, .int .i64 5, .int .i64 v, .int .i64 wt, .slice a l.length c]] w (TakPost B sb m lp ⟨2, 5, v, wt, l⟩ w) := by
  have c0 : w.cell? ⟨sb, 0, none⟩ = some (.int .u64 m) := hs.box.cell 0 (by simp)
  have f0 := hs.box.frozen 0
  have lb := hs.box.lt.2
  have lB := hs.box.lt.1
  by_cases h2 : m < 2 ^ 5
  · have hor : bits BinOp.or IntKind.u64 (m : Int) 32 = (m : Int) + 32 := bits_or ⟨5, by omega⟩ ⟨m, hm⟩ h2
    have HT : Hid (takeM m lp ⟨2, 5, v, wt, l⟩ = some (m + 32, lp)) := by show _ = _; unfold takeM; rw [if_pos rfl]; exact if_pos h2
    go_enter Tryz.func110, Tryz.ntmps110
    go_wp2_with fail
    go_region_held3 (fun w' => w'.cell? ⟨sb, 0, none⟩ = some (.int .u64 m) ∧ w'.cell? ⟨w.heap.size, 1, none⟩ = some (.int .i64 5)) (go_keep) (first | (go_at_call 124; refine (above_any m 5 hm (by omega) _).mono ?_; rintro e w4 ⟨rfl, hw4⟩; subst w4; rw [decide_eq_true h2]) | fail)
    go_wp2_with fail
    go_region
    go_wp2_with fail
    go_ret
    exact ⟨hold_turns lB _ _, .inr ⟨_, _, _, HT.out, rfl, hs.hold _⟩⟩
  · have HT : Hid (takeM m lp ⟨2, 5, v, wt, l⟩ = none) := by show _ = _; unfold takeM; rw [if_pos rfl]; exact if_neg h2
    go_enter Tryz.func110, Tryz.ntmps110
    go_wp2_with fail
    go_region_held3 (fun w' => w'.cell? ⟨sb, 0, none⟩ = some (.int .u64 m) ∧ w'.cell? ⟨w.heap.size, 1, none⟩ = some (.int .i64 5)) (go_keep) (first | (go_at_call 124; refine (above_any m 5 hm (by omega) _).mono ?_; rintro e w4 ⟨rfl, hw4⟩; subst w4; rw [decide_eq_false h2]) | fail)
    go_wp2_with fail
    go_ret
    exact ⟨turns_B (((Kept.refl w).alloc _).drew), .inl ⟨HT.out, rfl⟩⟩
set_option maxHeartbeats 2000000 in
theorem takes_unlock5 (B sb m : Nat) (lv : Value) (lp : List Nat) (a : Option Addr) (c : Nat) (v wt : Int) (l : List CaseD) (w : World) (hs : StP B w sb lv m lp) (hm : m < 256) :
    Calls Tryz.prog 110 #[.pointer (some ⟨sb, 0, none⟩), .agg #[.int .i64 3, .int .i64 5, .int .i64 v, .int .i64 wt, .slice a l.length c]] w (TakPost B sb m lp ⟨3, 5, v, wt, l⟩ w) := by
  have c0 : w.cell? ⟨sb, 0, none⟩ = some (.int .u64 m) := hs.box.cell 0 (by simp)
  have f0 := hs.box.frozen 0
  have lb := hs.box.lt.2
  have lB := hs.box.lt.1
  by_cases h2 : 2 ^ 5 ≤ m ∧ m < 2 * 2 ^ 5
  · have hor : bits BinOp.andNot IntKind.u64 (m : Int) 32 = ((m - 32 : Nat) : Int) := (bits_not ⟨5, by omega⟩ ⟨m, hm⟩ h2.1).elim id (fun h => absurd h2.2 (by simp only at h; omega))
    have HT : Hid (takeM m lp ⟨3, 5, v, wt, l⟩ = some (m - 32, lp)) := by show _ = _; unfold takeM; rw [if_neg (by simp), if_pos rfl]; exact if_pos h2
    go_enter Tryz.func110, Tryz.ntmps110
    go_wp2_with fail
    go_region_held3 (fun w' => w'.cell? ⟨sb, 0, none⟩ = some (.int .u64 m) ∧ w'.cell? ⟨w.heap.size, 1, none⟩ = some (.int .i64 5)) (go_keep) (first | (go_at_call 125; refine (last_any m 5 hm (by omega) _).mono ?_; rintro e w4 ⟨rfl, hw4⟩; subst w4; rw [decide_eq_true h2]) | fail)
    go_wp2_with fail
    go_region
    go_wp2_with fail
    go_ret
    exact ⟨hold_turns lB _ _, .inr ⟨_, _, _, HT.out, rfl, hs.hold _⟩⟩
  · have HT : Hid (takeM m lp ⟨3, 5, v, wt, l⟩ = none) := by show _ = _; unfold takeM; rw [if_neg (by simp), if_pos rfl]; exact if_neg h2
    go_enter Tryz.func110, Tryz.ntmps110
    go_wp2_with fail
    go_region_held3 (fun w' => w'.cell? ⟨sb, 0, none⟩ = some (.int .u64 m) ∧ w'.cell? ⟨w.heap.size, 1, none⟩ = some (.int .i64 5)) (go_keep) (first | (go_at_call 125; refine (last_any m 5 hm (by omega) _).mono ?_; rintro e w4 ⟨rfl, hw4⟩; subst w4; rw [decide_eq_false h2]) | fail)
    go_wp2_with fail
    go_ret
    exact ⟨turns_B (((Kept.refl w).alloc _).drew), .inl ⟨HT.out, rfl⟩⟩
set_option maxHeartbeats 2000000 in
theorem takes_lock6 (B sb m : Nat) (lv : Value) (lp : List Nat) (a : Option Addr) (c : Nat) (v wt : Int) (l : List CaseD) (w : World) (hs : StP B w sb lv m lp) (hm : m < 256) :
    Calls Tryz.prog 110 #[.pointer (some ⟨sb, 0, none⟩), .agg #[.int .i64 2, .int .i64 6, .int .i64 v, .int .i64 wt, .slice a l.length c]] w (TakPost B sb m lp ⟨2, 6, v, wt, l⟩ w) := by
  have c0 : w.cell? ⟨sb, 0, none⟩ = some (.int .u64 m) := hs.box.cell 0 (by simp)
  have f0 := hs.box.frozen 0
  have lb := hs.box.lt.2
  have lB := hs.box.lt.1
  by_cases h2 : m < 2 ^ 6
  · have hor : bits BinOp.or IntKind.u64 (m : Int) 64 = (m : Int) + 64 := bits_or ⟨6, by omega⟩ ⟨m, hm⟩ h2
    have HT : Hid (takeM m lp ⟨2, 6, v, wt, l⟩ = some (m + 64, lp)) := by show _ = _; unfold takeM; rw [if_pos rfl]; exact if_pos h2
    go_enter Tryz.func110, Tryz.ntmps110
    go_wp2_with fail
    go_region_held3 (fun w' => w'.cell? ⟨sb, 0, none⟩ = some (.int .u64 m) ∧ w'.cell? ⟨w.heap.size, 1, none⟩ = some (.int .i64 6)) (go_keep) (first | (go_at_call 124; refine (above_any m 6 hm (by omega) _).mono ?_; rintro e w4 ⟨rfl, hw4⟩; subst w4; rw [decide_eq_true h2]) | fail)
    go_wp2_with fail
    go_region
    go_wp2_with fail
    go_ret
    exact ⟨hold_turns lB _ _, .inr ⟨_, _, _, HT.out, rfl, hs.hold _⟩⟩
  · have HT : Hid (takeM m lp ⟨2, 6, v, wt, l⟩ = none) := by show _ = _; unfold takeM; rw [if_pos rfl]; exact if_neg h2
    go_enter Tryz.func110, Tryz.ntmps110
    go_wp2_with fail
    go_region_held3 (fun w' => w'.cell? ⟨sb, 0, none⟩ = some (.int .u64 m) ∧ w'.cell? ⟨w.heap.size, 1, none⟩ = some (.int .i64 6)) (go_keep) (first | (go_at_call 124; refine (above_any m 6 hm (by omega) _).mono ?_; rintro e w4 ⟨rfl, hw4⟩; subst w4; rw [decide_eq_false h2]) | fail)
    go_wp2_with fail
    go_ret
    exact ⟨turns_B (((Kept.refl w).alloc _).drew), .inl ⟨HT.out, rfl⟩⟩
set_option maxHeartbeats 2000000 in
theorem takes_unlock6 (B sb m : Nat) (lv : Value) (lp : List Nat) (a : Option Addr) (c : Nat) (v wt : Int) (l : List CaseD) (w : World) (hs : StP B w sb lv m lp) (hm : m < 256) :
    Calls Tryz.prog 110 #[.pointer (some ⟨sb, 0, none⟩), .agg #[.int .i64 3, .int .i64 6, .int .i64 v, .int .i64 wt, .slice a l.length c]] w (TakPost B sb m lp ⟨3, 6, v, wt, l⟩ w) := by
  have c0 : w.cell? ⟨sb, 0, none⟩ = some (.int .u64 m) := hs.box.cell 0 (by simp)
  have f0 := hs.box.frozen 0
  have lb := hs.box.lt.2
  have lB := hs.box.lt.1
  by_cases h2 : 2 ^ 6 ≤ m ∧ m < 2 * 2 ^ 6
  · have hor : bits BinOp.andNot IntKind.u64 (m : Int) 64 = ((m - 64 : Nat) : Int) := (bits_not ⟨6, by omega⟩ ⟨m, hm⟩ h2.1).elim id (fun h => absurd h2.2 (by simp only at h; omega))
    have HT : Hid (takeM m lp ⟨3, 6, v, wt, l⟩ = some (m - 64, lp)) := by show _ = _; unfold takeM; rw [if_neg (by simp), if_pos rfl]; exact if_pos h2
    go_enter Tryz.func110, Tryz.ntmps110
    go_wp2_with fail
    go_region_held3 (fun w' => w'.cell? ⟨sb, 0, none⟩ = some (.int .u64 m) ∧ w'.cell? ⟨w.heap.size, 1, none⟩ = some (.int .i64 6)) (go_keep) (first | (go_at_call 125; refine (last_any m 6 hm (by omega) _).mono ?_; rintro e w4 ⟨rfl, hw4⟩; subst w4; rw [decide_eq_true h2]) | fail)
    go_wp2_with fail
    go_region
    go_wp2_with fail
    go_ret
    exact ⟨hold_turns lB _ _, .inr ⟨_, _, _, HT.out, rfl, hs.hold _⟩⟩
  · have HT : Hid (takeM m lp ⟨3, 6, v, wt, l⟩ = none) := by show _ = _; unfold takeM; rw [if_neg (by simp), if_pos rfl]; exact if_neg h2
    go_enter Tryz.func110, Tryz.ntmps110
    go_wp2_with fail
    go_region_held3 (fun w' => w'.cell? ⟨sb, 0, none⟩ = some (.int .u64 m) ∧ w'.cell? ⟨w.heap.size, 1, none⟩ = some (.int .i64 6)) (go_keep) (first | (go_at_call 125; refine (last_any m 6 hm (by omega) _).mono ?_; rintro e w4 ⟨rfl, hw4⟩; subst w4; rw [decide_eq_false h2]) | fail)
    go_wp2_with fail
    go_ret
    exact ⟨turns_B (((Kept.refl w).alloc _).drew), .inl ⟨HT.out, rfl⟩⟩
set_option maxHeartbeats 2000000 in
theorem takes_lock7 (B sb m : Nat) (lv : Value) (lp : List Nat) (a : Option Addr) (c : Nat) (v wt : Int) (l : List CaseD) (w : World) (hs : StP B w sb lv m lp) (hm : m < 256) :
    Calls Tryz.prog 110 #[.pointer (some ⟨sb, 0, none⟩), .agg #[.int .i64 2, .int .i64 7, .int .i64 v, .int .i64 wt, .slice a l.length c]] w (TakPost B sb m lp ⟨2, 7, v, wt, l⟩ w) := by
  have c0 : w.cell? ⟨sb, 0, none⟩ = some (.int .u64 m) := hs.box.cell 0 (by simp)
  have f0 := hs.box.frozen 0
  have lb := hs.box.lt.2
  have lB := hs.box.lt.1
  by_cases h2 : m < 2 ^ 7
  · have hor : bits BinOp.or IntKind.u64 (m : Int) 128 = (m : Int) + 128 := bits_or ⟨7, by omega⟩ ⟨m, hm⟩ h2
    have HT : Hid (takeM m lp ⟨2, 7, v, wt, l⟩ = some (m + 128, lp)) := by show _ = _; unfold takeM; rw [if_pos rfl]; exact if_pos h2
    go_enter Tryz.func110, Tryz.ntmps110
    go_wp2_with fail
    go_region_held3 (fun w' => w'.cell? ⟨sb, 0, none⟩ = some (.int .u64 m) ∧ w'.cell? ⟨w.heap.size, 1, none⟩ = some (.int .i64 7)) (go_keep) (first | (go_at_call 124; refine (above_any m 7 hm (by omega) _).mono ?_; rintro e w4 ⟨rfl, hw4⟩; subst w4; rw [decide_eq_true h2]) | fail)
    go_wp2_with fail
    go_region
    go_wp2_with fail
    go_ret
    exact ⟨hold_turns lB _ _, .inr ⟨_, _, _, HT.out, rfl, hs.hold _⟩⟩
  · have HT : Hid (takeM m lp ⟨2, 7, v, wt, l⟩ = none) := by show _ = _; unfold takeM; rw [if_pos rfl]; exact if_neg h2
    go_enter Tryz.func110, Tryz.ntmps110
    go_wp2_with fail
    go_region_held3 (fun w' => w'.cell? ⟨sb, 0, none⟩ = some (.int .u64 m) ∧ w'.cell? ⟨w.heap.size, 1, none⟩ = some (.int .i64 7)) (go_keep) (first | (go_at_call 124; refine (above_any m 7 hm (by omega) _).mono ?_; rintro e w4 ⟨rfl, hw4⟩; subst w4; rw [decide_eq_false h2]) | fail)
    go_wp2_with fail
    go_ret
    exact ⟨turns_B (((Kept.refl w).alloc _).drew), .inl ⟨HT.out, rfl⟩⟩
set_option maxHeartbeats 2000000 in
theorem takes_unlock7 (B sb m : Nat) (lv : Value) (lp : List Nat) (a : Option Addr) (c : Nat) (v wt : Int) (l : List CaseD) (w : World) (hs : StP B w sb lv m lp) (hm : m < 256) :
    Calls Tryz.prog 110 #[.pointer (some ⟨sb, 0, none⟩), .agg #[.int .i64 3, .int .i64 7, .int .i64 v, .int .i64 wt, .slice a l.length c]] w (TakPost B sb m lp ⟨3, 7, v, wt, l⟩ w) := by
  have c0 : w.cell? ⟨sb, 0, none⟩ = some (.int .u64 m) := hs.box.cell 0 (by simp)
  have f0 := hs.box.frozen 0
  have lb := hs.box.lt.2
  have lB := hs.box.lt.1
  by_cases h2 : 2 ^ 7 ≤ m ∧ m < 2 * 2 ^ 7
  · have hor : bits BinOp.andNot IntKind.u64 (m : Int) 128 = ((m - 128 : Nat) : Int) := (bits_not ⟨7, by omega⟩ ⟨m, hm⟩ h2.1).elim id (fun h => absurd h2.2 (by simp only at h; omega))
    have HT : Hid (takeM m lp ⟨3, 7, v, wt, l⟩ = some (m - 128, lp)) := by show _ = _; unfold takeM; rw [if_neg (by simp), if_pos rfl]; exact if_pos h2
    go_enter Tryz.func110, Tryz.ntmps110
    go_wp2_with fail
    go_region_held3 (fun w' => w'.cell? ⟨sb, 0, none⟩ = some (.int .u64 m) ∧ w'.cell? ⟨w.heap.size, 1, none⟩ = some (.int .i64 7)) (go_keep) (first | (go_at_call 125; refine (last_any m 7 hm (by omega) _).mono ?_; rintro e w4 ⟨rfl, hw4⟩; subst w4; rw [decide_eq_true h2]) | fail)
    go_wp2_with fail
    go_region
    go_wp2_with fail
    go_ret
    exact ⟨hold_turns lB _ _, .inr ⟨_, _, _, HT.out, rfl, hs.hold _⟩⟩
  · have HT : Hid (takeM m lp ⟨3, 7, v, wt, l⟩ = none) := by show _ = _; unfold takeM; rw [if_neg (by simp), if_pos rfl]; exact if_neg h2
    go_enter Tryz.func110, Tryz.ntmps110
    go_wp2_with fail
    go_region_held3 (fun w' => w'.cell? ⟨sb, 0, none⟩ = some (.int .u64 m) ∧ w'.cell? ⟨w.heap.size, 1, none⟩ = some (.int .i64 7)) (go_keep) (first | (go_at_call 125; refine (last_any m 7 hm (by omega) _).mono ?_; rintro e w4 ⟨rfl, hw4⟩; subst w4; rw [decide_eq_false h2]) | fail)
    go_wp2_with fail
    go_ret
    exact ⟨turns_B (((Kept.refl w).alloc _).drew), .inl ⟨HT.out, rfl⟩⟩
end Go.Proofs.YtolljdomnohmdabGreatDoor
