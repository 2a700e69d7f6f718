/- takes: Loop, End, the others; all of it. -/
import Derived.ProofKit
import Derived.OpenShut
import Derived.ShutString
import Derived.ChangeOld
import Derived.ChangeArms
import Derived.WideShapes
import Derived.Below
import Derived.Deep.Slices
import Derived.Deep.SlicePairs
import Derived.Test.YtolljdomnohmdabGreatDoorM2
import Derived.Test.YtolljdomnohmdabGreatDoorCas
import Derived.Test.YtolljdomnohmdabGreatDoorCheck
import Derived.Test.YtolljdomnohmdabGreatDoorM3
import Derived.Test.YtolljdomnohmdabGreatDoorM4
import Derived.Test.YtolljdomnohmdabGreatDoorM0
import Derived.Test.YtolljdomnohmdabGreatDoorM1
import Derived.Test.YtolljdomnohmdabGreatDoorOpT
import Derived.Test.YtolljdomnohmdabGreatDoorPar
import Derived.Test.YtolljdomnohmdabGreatDoorM7
import Derived.Test.YtolljdomnohmdabGreatDoorTxt
import Derived.Test.YtolljdomnohmdabGreatDoorRWrd
import Derived.Test.YtolljdomnohmdabGreatDoorM5
import Derived.Test.YtolljdomnohmdabGreatDoorRead
import Derived.Test.YtolljdomnohmdabGreatDoorM8
import Derived.Test.YtolljdomnohmdabGreatDoorTrn
import Derived.Test.YtolljdomnohmdabGreatDoorQTak
import Derived.Test.YtolljdomnohmdabGreatDoorM10
namespace Go.Proofs.YtolljdomnohmdabGreatDoor
open Go.RowKit

theorem own_take {w : World} {base : Nat} {e : TypeId} {size g n cap r : Nat} {xs : List Value} (h : w.ownsRow base e size (.slice (some ⟨g, 0, none⟩) n cap) n xs) (hr : r ≤ n) : w.ownsRow base e size (.slice (some ⟨g, 0, none⟩) r cap) r (xs.take (r * size)) := by
  have hm : r * size ≤ n * size := Nat.mul_le_mul_right _ hr
  refine ⟨by rw [List.length_take, h.1]; omega, ?_⟩
  rcases h.2 with ⟨hn, _⟩ | ⟨g', cap', cur, he, hb, hgg, h1, h2, h3, h4⟩
  · cases hn
  · cases he
    refine .inr ⟨_, _, cur, rfl, hb, hgg, by omega, h2, h3, ?_⟩
    rw [← h4, List.take_take, Nat.min_eq_left hm]
theorem StP.push {B : Nat} {w : World} {sb : Nat} {lv : Value} {m : Nat} {lp : List Nat} (h : StP B w sb lv m lp) {o1 o2 : Obj} {w' : World} {g n c : Nat} (gr : ((w.alloc o1).drew.alloc o2).grownBy w' lv.ownBlock) (at5 : lv.ownBlock = some g ∨ (w.alloc o1).drew.heap.size < g)
    (r : LRow B w' (.slice (some ⟨g, 0, none⟩) n c) (lp.reverse ++ [m])) :
    StP B (w'.setCell ⟨sb, 1, none⟩ (.slice (some ⟨g, 0, none⟩) n c)) sb (.slice (some ⟨g, 0, none⟩) n c) m (m :: lp) ∧ Turns (fun k => B ≤ k) w (w'.setCell ⟨sb, 1, none⟩ (.slice (some ⟨g, 0, none⟩) n c)) ∧ w'.cell? ⟨sb, 0, none⟩ = some (.int .u64 m) ∧ w'.cell? ⟨sb, 1, none⟩ = some lv ∧ w'.frozen? ⟨sb, 1, none⟩ = false ∧ sb < w'.heap.size := by
  have hl := h.box.lt
  have t : Turns (fun k => lv.ownBlock = some k) w w' := ((((Turns.refl _ w).alloc o1).drew).alloc o2).trans (Turns.grown gr (fun k e => e))
  have b2 := h.box.turns t (fun e => h.far _ e rfl)
  have hg : g ≠ sb := by
    rcases at5 with h1 | h1
    · exact h.far _ h1
    · have : (w.alloc o1).drew.heap.size = w.heap.size + 1 := by show (w.alloc o1).heap.size = _; simp
      omega
  have t2 := turn_set w' sb 1 (.slice (some ⟨g, 0, none⟩) n c)
  have hT : Turns (fun k => B ≤ k) w w' := t.mono (fun k _ hk => (World.ownsRow.lt h.row k hk).1)
  have r2 : LRow B (w'.setCell ⟨sb, 1, none⟩ (.slice (some ⟨g, 0, none⟩) n c)) (.slice (some ⟨g, 0, none⟩) n c) (m :: lp).reverse := by
    rw [List.reverse_cons]
    exact r.turns t2 (fun q hq e => by simp [Value.ownBlock] at hq; omega)
  exact ⟨⟨b2.set 1 _, r2, fun q hq => by simp [Value.ownBlock] at hq; omega⟩, hT.next t2 (fun i _ hi => by show B ≤ i; omega), b2.cell 0 (by simp), b2.cell 1 (by simp), b2.frozen 1, b2.lt.2⟩

set_option maxHeartbeats 4000000 in
set_option maxRecDepth 10000 in
theorem takes_loop (B sb m : Nat) (lv : Value) (lp : List Nat) (a : Option Addr) (c : Nat) (n v wt : Int) (l : List CaseD) (w : World) (hs : StP B w sb lv m lp) (hl : lp.length ≤ 3) :
    Calls Tryz.prog 110 #[.pointer (some ⟨sb, 0, none⟩), .agg #[.int .i64 8, .int .i64 n, .int .i64 v, .int .i64 wt, .slice a l.length c]] w (TakPost B sb m lp ⟨8, n, v, wt, l⟩ w) := by
  have c0 : w.cell? ⟨sb, 0, none⟩ = some (.int .u64 m) := hs.box.cell 0 (by simp)
  have c1 : w.cell? ⟨sb, 1, none⟩ = some lv := hs.box.cell 1 (by simp)
  have f1 := hs.box.frozen 1
  have lb := hs.box.lt.2
  have lB := hs.box.lt.1
  obtain ⟨la, lc, hlv⟩ := hs.row.form
  rw [List.length_reverse] at hlv
  have HS : Hid (StP B w sb lv m lp) := hs
  clear hs
  by_cases h3 : lp.length = 3
  · have HT : Hid (takeM m lp ⟨8, n, v, wt, l⟩ = none) := by show _ = _; unfold takeM; rw [if_neg (by simp), if_neg (by simp), if_pos rfl]; exact if_pos h3
    rw [h3] at hlv
    subst hlv
    go_enter Tryz.func110, Tryz.ntmps110
    go_wp2_with fail
    go_ret
    exact ⟨turns_B ((Kept.refl w).alloc _), .inl ⟨HT.out, rfl⟩⟩
  · have HT : Hid (takeM m lp ⟨8, n, v, wt, l⟩ = some (m, m :: lp)) := by show _ = _; unfold takeM; rw [if_neg (by simp), if_neg (by simp), if_pos rfl]; exact if_neg h3
    have hb3 : ((lp.length : Int) == 3) = false := beq_eq_false_iff_ne.2 (by omega)
    subst hlv
    have KA := ((Kept.refl w).alloc (.cells #[.int .i64 8, .int .i64 n, .int .i64 v, .int .i64 wt, .slice a l.length c] 37)).drew
    go_enter Tryz.func110, Tryz.ntmps110
    go_wp2_with fail
    refine wp_region_S (by kernel_rfl) 13 (fun w' => w'.cell? ⟨sb, 0, none⟩ = some (.int .u64 m) ∧ w'.cell? ⟨sb, 1, none⟩ = some (.slice la lp.length lc)) ?_
    have hS0 := And.intro (KA.cell c0) (KA.cell c1)
    refine wpAnyS_take (i := 0) (v := .pointer (some ⟨sb, 0, none⟩)) rfl (by kernel_rfl) (by kernel_rfl) (by kernel_rfl) (by kernel_rfl) (fun _ _ _ h => h) hS0 rfl (fun wx hx => by obtain ⟨s1, s2⟩ := hx; go_simp) ?_
    refine wpAnyS_take (i := 1) (v := .pointer (some ⟨sb, 0, none⟩)) rfl (by kernel_rfl) (by kernel_rfl) (by kernel_rfl) (by kernel_rfl) (fun _ _ _ h => h) hS0 rfl (fun wx hx => by obtain ⟨s1, s2⟩ := hx; go_simp) ?_
    refine wpAnyS_take (i := 2) (v := .pointer (some ⟨sb, 0, none⟩)) rfl (by kernel_rfl) (by kernel_rfl) (by kernel_rfl) (by kernel_rfl) (fun _ _ _ h => h) hS0 rfl (fun wx hx => by obtain ⟨s1, s2⟩ := hx; go_simp) ?_
    refine wpAnyS_take (i := 3) (v := .pointer (some ⟨sb, 1, none⟩)) rfl (by kernel_rfl) (by kernel_rfl) (by kernel_rfl) (by kernel_rfl) (fun _ _ _ h => h) hS0 rfl (fun wx hx => by obtain ⟨s1, s2⟩ := hx; go_simp) ?_
    refine wpAnyS_take (i := 4) (v := .slice la lp.length lc) rfl (by kernel_rfl) (by kernel_rfl) (by kernel_rfl) (by kernel_rfl) (fun _ _ _ h => h) hS0 rfl (fun wx hx => by obtain ⟨s1, s2⟩ := hx; go_simp) ?_
    refine wpAnyS_take (i := 5) (v := .pointer (some ⟨sb, 0, none⟩)) rfl (by kernel_rfl) (by kernel_rfl) (by kernel_rfl) (by kernel_rfl) (fun _ _ _ h => h) hS0 rfl (fun wx hx => by obtain ⟨s1, s2⟩ := hx; go_simp) ?_
    refine wpAnyS_take (i := 6) (v := .pointer (some ⟨sb, 0, none⟩)) rfl (by kernel_rfl) (by kernel_rfl) (by kernel_rfl) (by kernel_rfl) (fun _ _ _ h => h) hS0 rfl (fun wx hx => by obtain ⟨s1, s2⟩ := hx; go_simp) ?_
    refine wpAnyS_take (i := 7) (v := .pointer (some ⟨sb, 0, none⟩)) rfl (by kernel_rfl) (by kernel_rfl) (by kernel_rfl) (by kernel_rfl) (fun _ _ _ h => h) hS0 rfl (fun wx hx => by obtain ⟨s1, s2⟩ := hx; go_simp) ?_
    refine wpAnyS_take (i := 8) (v := .int .u64 m) rfl (by kernel_rfl) (by kernel_rfl) (by kernel_rfl) (by kernel_rfl) (fun _ _ _ h => h) hS0 rfl (fun wx hx => by obtain ⟨s1, s2⟩ := hx; go_simp) ?_
    refine wpAnyS_one (i := 9) rfl (by kernel_rfl) (fun K hK => ?_)
    go_simp
    have KB := KA.alloc (.cells #[.int .u64 m] 166)
    refine hK _ _ (fun _ => And.intro (KB.cell c0) (KB.cell c1)) ?_
    clear hK K
    refine wpAnyS_one (i := 10) rfl (by kernel_rfl) (fun K hK => ?_)
    refine step_append_lock _ (by rfl) _ _ (by rfl) B (.slice la lp.length lc) lp.reverse m (w.alloc (.cells #[.int .i64 8, .int .i64 n, .int .i64 v, .int .i64 wt, .slice a l.length c] 37)).drew (by rfl) (by rfl) (w.heap.size + 1) (by show _ = (w.alloc _).heap.size; simp) (by rfl) (HS.out.row.kept KA) (by simp; omega) (by have := KA.size; omega) ?_
    intro g cap w3 R3 gr3 at3
    obtain ⟨P1, P2, P3, P4, P5, P6⟩ := HS.out.push gr3 at3 R3
    have hS2 := And.intro P3 P4
    refine hK _ _ (fun _ => hS2) ?_
    clear hK K
    refine wpAnyS_one (i := 11) rfl (by kernel_rfl) (fun K hK => ?_)
    go_simp
    refine hK _ _ (fun _ => hS2) ?_
    clear hK K
    refine wpAnyS_take (i := 12) (v := .pointer (some ⟨sb, 1, none⟩)) rfl (by kernel_rfl) (by kernel_rfl) (by kernel_rfl) (by kernel_rfl) (fun _ _ _ h => h) hS2 rfl (fun wx hx => by obtain ⟨s1, s2⟩ := hx; go_simp) ?_
    refine wpAnyS_one (i := 13) rfl (by kernel_rfl) (fun K hK => ?_)
    go_simp
    refine hK _ _ (fun h => absurd rfl h) ?_
    clear hK K
    refine wpAnyS_done (by kernel_rfl) ?_ _
    rw [List.length_reverse] at P1 P2
    have HP1 : Hid (StP B (w3.setCell ⟨sb, 1, none⟩ (.slice (some ⟨g, 0, none⟩) (lp.length + 1) cap)) sb (.slice (some ⟨g, 0, none⟩) (lp.length + 1) cap) m (m :: lp)) := P1
    have HP2 : Hid (Turns (fun k => B ≤ k) w (w3.setCell ⟨sb, 1, none⟩ (.slice (some ⟨g, 0, none⟩) (lp.length + 1) cap))) := P2
    clear P1 P2
    go_wp2_with fail
    go_ret
    exact ⟨HP2.out, .inr ⟨_, _, _, HT.out, rfl, HP1.out⟩⟩

set_option maxHeartbeats 4000000 in
set_option maxRecDepth 10000 in
theorem takes_end (B sb m : Nat) (lv : Value) (lp : List Nat) (a : Option Addr) (c : Nat) (n v wt : Int) (l : List CaseD) (w : World) (hs : StP B w sb lv m lp) (hl : lp.length ≤ 3) :
    Calls Tryz.prog 110 #[.pointer (some ⟨sb, 0, none⟩), .agg #[.int .i64 9, .int .i64 n, .int .i64 v, .int .i64 wt, .slice a l.length c]] w (TakPost B sb m lp ⟨9, n, v, wt, l⟩ w) := by
  have c0 : w.cell? ⟨sb, 0, none⟩ = some (.int .u64 m) := hs.box.cell 0 (by simp)
  have c1 : w.cell? ⟨sb, 1, none⟩ = some lv := hs.box.cell 1 (by simp)
  have f1 := hs.box.frozen 1
  have lb := hs.box.lt.2
  have lB := hs.box.lt.1
  obtain ⟨la, lc, hlv⟩ := hs.row.form
  rw [List.length_reverse] at hlv
  have HS : Hid (StP B w sb lv m lp) := hs
  clear hs
  have KA := ((Kept.refl w).alloc (.cells #[.int .i64 9, .int .i64 n, .int .i64 v, .int .i64 wt, .slice a l.length c] 37))
  cases lp with
  | nil =>
    have HT : Hid (takeM m [] ⟨9, n, v, wt, l⟩ = none) := rfl
    rw [List.length_nil] at hlv
    subst hlv
    go_enter Tryz.func110, Tryz.ntmps110
    go_wp2_with fail
    go_quiet (fail)
    go_wp2_with fail
    go_ret
    exact ⟨turns_B (KA.drewN _), .inl ⟨HT.out, rfl⟩⟩
  | cons x r =>
    have HR := HS.out.row
    rw [hlv] at HR
    have hla : ∃ g, la = some ⟨g, 0, none⟩ := by
      rcases HR.2 with ⟨h1, h2⟩ | ⟨g, cap, cur, h1, _⟩
      · simp at h2
      · exact ⟨g, (Value.slice.inj h1).1⟩
    obtain ⟨g, rfl⟩ := hla
    have hgl : g < w.heap.size := (World.ownsRow.lt HR g rfl).2
    have hgs : g ≠ sb := HS.out.far g (by rw [hlv]; rfl)
    have HR2 : Hid (LRow B w (.slice (some ⟨g, 0, none⟩) (r.length + 1) lc) (r.reverse ++ [x])) := by
      have := HR
      rw [List.reverse_cons] at this
      exact this
    have cx : w.cell? ⟨g, r.length, none⟩ = some (.int .u64 x) := by
      have h := HR2.out
      unfold LRow at h
      rw [List.length_append, List.length_reverse] at h
      have hcc := h.cellAt r.length (by simp)
      rw [hcc]
      simp [lockV]
    have hlc : r.length + 1 ≤ lc := by
      rcases HR2.out.2 with ⟨h1, h2⟩ | ⟨g', cap, cur, h1, _, _, h3, _⟩
      · cases h1
      · rw [(Value.slice.inj h1).2.2]
        simpa using h3
    rw [List.length_cons] at hlv
    subst hlv
    clear HR
    have e1 : (r.length : Int) + 1 - 1 = (r.length : Int) := by omega
    have hl2 : r.length ≤ 2 := by simp at hl; omega
    have hw0 : wrap64 (r.length : Int) = (r.length : Int) := by unfold wrap64; omega
    have b1 : ¬ (r.length : Int) < 0 := by omega
    have b0 : decide ((r.length : Int) < 0) = false := decide_eq_false b1
    have b2 : (r.length : Int) < (r.length : Int) + 1 := by omega
    have b3 : (r.length : Int) ≤ (r.length : Int) + 1 := by omega
    have b4 : (0 : Int) ≤ (r.length : Int) := by omega
    have b5 : (r.length : Int) ≤ (lc : Int) := by omega
    by_cases hx : x = m
    · subst hx
      have HT : Hid (takeM x (x :: r) ⟨9, n, v, wt, l⟩ = some (x, r)) := by show _ = _; unfold takeM; rw [if_neg (by simp), if_neg (by simp), if_neg (by simp), if_pos rfl]; exact if_pos rfl
      have hxx : ((x : Int) != (x : Int)) = false := by simp
      go_enter Tryz.func110, Tryz.ntmps110
      go_wp2_with fail
      go_quiet (fail)
      go_wp2_with fail
      go_ret
      have hk := KA.drewN nq
      have hsw := HS.out.kept hk
      have hrw := HR2.out.kept hk
      generalize (w.alloc (.cells #[.int .i64 9, .int .i64 n, .int .i64 v, .int .i64 wt, .slice a l.length c] 37)).drewN nq = W1 at hk hsw hrw ⊢
      have t1 := turn_set W1 sb 1 (.slice (some ⟨g, 0, none⟩) r.length lc)
      have bx : Box B (W1.setCell ⟨sb, 1, none⟩ (.slice (some ⟨g, 0, none⟩) r.length lc)) 169 sb [.int .u64 x, .slice (some ⟨g, 0, none⟩) r.length lc] := hsw.box.set 1 _
      have rw1 : LRow B (W1.setCell ⟨sb, 1, none⟩ (.slice (some ⟨g, 0, none⟩) r.length lc)) (.slice (some ⟨g, 0, none⟩) r.length lc) r.reverse := by
        unfold LRow at hrw ⊢
        rw [List.length_append, List.length_reverse] at hrw
        have h2 := own_take (r := r.length) hrw (by simp)
        rw [List.length_reverse]
        have h3 : (List.map lockV (r.reverse ++ [x])).take (r.length * 1) = r.reverse.map lockV := by
          rw [Nat.mul_one, List.map_append]
          exact List.take_left' (by simp)
        rw [h3] at h2
        exact owns_turns h2 t1 (fun q hq e => by simp [Value.ownBlock] at hq; omega)
      refine ⟨(turns_B hk).next t1 (fun i _ hi => by show B ≤ i; omega), .inr ⟨_, _, _, HT.out, rfl, bx, rw1, fun q hq => by simp [Value.ownBlock] at hq; omega⟩⟩
    · have HT : Hid (takeM m (x :: r) ⟨9, n, v, wt, l⟩ = none) := by show _ = _; unfold takeM; rw [if_neg (by simp), if_neg (by simp), if_neg (by simp), if_pos rfl]; exact if_neg hx
      have hxx : ((x : Int) != (m : Int)) = true := by simp; omega
      clear hx
      go_enter Tryz.func110, Tryz.ntmps110
      go_wp2_with fail
      go_quiet (fail)
      go_wp2_with fail
      go_ret
      exact ⟨turns_B (KA.drewN _), .inl ⟨HT.out, rfl⟩⟩

theorem take_other {k : Int} (h : k = 1 ∨ k = 4 ∨ k = 5 ∨ k = 6 ∨ k = 7) (m : Nat) (lp : List Nat) (n v wt : Int) (l : List CaseD) : takeM m lp ⟨k, n, v, wt, l⟩ = if m = 0 ∨ waitsD ⟨k, n, v, wt, l⟩ = false then some (m, lp) else none := by
  unfold takeM
  rw [if_neg (by simp only; omega), if_neg (by simp only; omega), if_neg (by simp only; omega), if_neg (by simp only; omega)]
set_option maxHeartbeats 4000000 in
theorem takes_other (B sb m : Nat) (lv : Value) (lp : List Nat) (a : Option Addr) (c : Nat) (k n v wt : Int) (l : List CaseD) (w : World) (hs : StP B w sb lv m lp) (hk : k = 1 ∨ k = 4 ∨ k = 5 ∨ k = 6 ∨ k = 7) (hr : Rdy w) :
    Calls Tryz.prog 110 #[.pointer (some ⟨sb, 0, none⟩), .agg #[.int .i64 k, .int .i64 n, .int .i64 v, .int .i64 wt, .slice a l.length c]] w (TakPost B sb m lp ⟨k, n, v, wt, l⟩ w) := by
  have c0 : w.cell? ⟨sb, 0, none⟩ = some (.int .u64 m) := hs.box.cell 0 (by simp)
  have lb := hs.box.lt.2
  have HTO := take_other hk m lp n v wt l
  have KA := ((Kept.refl w).alloc (.cells #[.int .i64 k, .int .i64 n, .int .i64 v, .int .i64 wt, .slice a l.length c] 37))
  have k2 : (k == 2) = false := beq_eq_false_iff_ne.2 (by omega)
  have k3 : (k == 3) = false := beq_eq_false_iff_ne.2 (by omega)
  have k8 : (k == 8) = false := beq_eq_false_iff_ne.2 (by omega)
  have k9 : (k == 9) = false := beq_eq_false_iff_ne.2 (by omega)
  have hwa := waits_any k n v wt a l.length c l _ (hr.kept KA)
  have HS : Hid (StP B w sb lv m lp) := hs
  clear hs hk hr
  by_cases hm : m = 0
  · have HT : Hid (takeM m lp ⟨k, n, v, wt, l⟩ = some (m, lp)) := by show _ = _; rw [HTO]; exact if_pos (.inl hm)
    clear HTO
    subst hm
    go_enter Tryz.func110, Tryz.ntmps110
    go_wp2_with fail
    go_ret
    exact ⟨turns_B KA, .inr ⟨_, _, _, HT.out, rfl, HS.out.kept KA⟩⟩
  · have hne : ((m : Int) == 0) = false := beq_eq_false_iff_ne.2 (by omega)
    cases hq : waitsD ⟨k, n, v, wt, l⟩ with
    | false =>
      have HT : Hid (takeM m lp ⟨k, n, v, wt, l⟩ = some (m, lp)) := by show _ = _; rw [HTO]; exact if_pos (.inr hq)
      rw [hq] at hwa
      clear HTO hq
      go_enter Tryz.func110, Tryz.ntmps110
      go_wp2_with fail
      refine hwa.mono ?_
      rintro e w4 ⟨rfl, t4⟩
      go_wp2_with fail
      go_ret
      exact ⟨turns_B (KA.trans t4), .inr ⟨_, _, _, HT.out, rfl, HS.out.kept (KA.trans t4)⟩⟩
    | true =>
      have HT : Hid (takeM m lp ⟨k, n, v, wt, l⟩ = none) := by show _ = _; rw [HTO]; exact if_neg (by rw [hq]; simp [hm])
      rw [hq] at hwa
      clear HTO hq
      go_enter Tryz.func110, Tryz.ntmps110
      go_wp2_with fail
      refine hwa.mono ?_
      rintro e w4 ⟨rfl, t4⟩
      go_wp2_with fail
      go_ret
      exact ⟨turns_B (KA.trans t4), .inl ⟨HT.out, rfl⟩⟩
/-- takes, of an op that may be. -/
theorem stakes_any (B sb m : Nat) (lv : Value) (lp : List Nat) (a : Option Addr) (c : Nat) (o : OpD) (w : World) (hs : StP B w sb lv m lp) (hm : m < 256) (hl : lp.length ≤ 3) (hk : checkD o = 0) (hr : Rdy w) :
    Calls Tryz.prog 110 #[.pointer (some ⟨sb, 0, none⟩), .agg #[.int .i64 o.kind, .int .i64 o.n, .int .i64 o.v, .int .i64 o.wait, .slice a o.cases.length c]] w (TakPost B sb m lp o w) := by
  have ht := taken_of hk
  obtain ⟨k, n, v, wt, l⟩ := o
  have hkc := kind_cases ht.kind
  have htk := ht.takes
  simp only at hkc htk ⊢
  have hn : k = 2 ∨ k = 3 → n = 0 ∨ n = 1 ∨ n = 2 ∨ n = 3 ∨ n = 4 ∨ n = 5 ∨ n = 6 ∨ n = 7 := by
    intro h
    have : ¬ n < 0 ∧ ¬ 7 < n := by
      rcases h with rfl | rfl
      · simp [takesB, shapeOf] at htk; omega
      · simp [takesB, shapeOf] at htk; omega
    omega
  rcases hkc with rfl | rfl | rfl | rfl | rfl | rfl | rfl | rfl | rfl
  · exact takes_other B sb m lv lp a c 1 n v wt l w hs (by simp) hr
  · rcases hn (.inl rfl) with rfl | rfl | rfl | rfl | rfl | rfl | rfl | rfl
    · exact takes_lock0 B sb m lv lp a c v wt l w hs hm
    · exact takes_lock1 B sb m lv lp a c v wt l w hs hm
    · exact takes_lock2 B sb m lv lp a c v wt l w hs hm
    · exact takes_lock3 B sb m lv lp a c v wt l w hs hm
    · exact takes_lock4 B sb m lv lp a c v wt l w hs hm
    · exact takes_lock5 B sb m lv lp a c v wt l w hs hm
    · exact takes_lock6 B sb m lv lp a c v wt l w hs hm
    · exact takes_lock7 B sb m lv lp a c v wt l w hs hm
  · rcases hn (.inr rfl) with rfl | rfl | rfl | rfl | rfl | rfl | rfl | rfl
    · exact takes_unlock0 B sb m lv lp a c v wt l w hs hm
    · exact takes_unlock1 B sb m lv lp a c v wt l w hs hm
    · exact takes_unlock2 B sb m lv lp a c v wt l w hs hm
    · exact takes_unlock3 B sb m lv lp a c v wt l w hs hm
    · exact takes_unlock4 B sb m lv lp a c v wt l w hs hm
    · exact takes_unlock5 B sb m lv lp a c v wt l w hs hm
    · exact takes_unlock6 B sb m lv lp a c v wt l w hs hm
    · exact takes_unlock7 B sb m lv lp a c v wt l w hs hm
  · exact takes_other B sb m lv lp a c 4 n v wt l w hs (by simp) hr
  · exact takes_other B sb m lv lp a c 5 n v wt l w hs (by simp) hr
  · exact takes_other B sb m lv lp a c 6 n v wt l w hs (by simp) hr
  · exact takes_other B sb m lv lp a c 7 n v wt l w hs (by simp) hr
  · exact takes_loop B sb m lv lp a c n v wt l w hs hl
  · exact takes_end B sb m lv lp a c n v wt l w hs hl
/-- The locks stay within eight bits, the Loops within three. -/
theorem take_small {m : Nat} {lp : List Nat} {o : OpD} {x : Nat × List Nat} (hm : m < 256) (hl : lp.length ≤ 3) (hk : checkD o = 0) (h : takeM m lp o = some x) : x.1 < 256 ∧ x.2.length ≤ 3 := by
  have ht := taken_of hk
  have htk := ht.takes
  unfold takeM at h
  split at h
  · rename_i hk2
    split at h
    · rename_i hc
      cases h
      have hn : o.n.toNat ≤ 7 := by
        rw [hk2] at htk
        simp [takesB, shapeOf] at htk
        omega
      have h2 : 2 ^ o.n.toNat ≤ 2 ^ 7 := Nat.pow_le_pow_right (by omega) hn
      exact ⟨by simp only; omega, hl⟩
    · cases h
  · split at h
    · split at h
      · cases h
        exact ⟨by simp only; omega, hl⟩
      · cases h
    · split at h
      · split at h
        · cases h
        · rename_i h3
          cases h
          exact ⟨hm, by simp only [List.length_cons]; omega⟩
      · split at h
        · split at h
          · cases h
          · split at h
            · cases h
              exact ⟨hm, by simp only [List.length_cons] at hl ⊢; omega⟩
            · cases h
        · split at h
          · cases h
            exact ⟨hm, hl⟩
          · cases h
end Go.Proofs.YtolljdomnohmdabGreatDoor
namespace Go.Proofs.YtolljdomnohmdabGreatDoor
open Go.RowKit

set_option maxHeartbeats 2000000 in
theorem each_any (a : Option Addr) (c : Nat) (p : List OpD) (w : World) (hr : Rdy w) (hA : AtP w a p) (hp : p.length ≤ 100000) (hc : ∀ o ∈ p, o.cases.length ≤ 1000000) :
    Calls Tryz.prog 87 #[.slice a p.length c] w fun e w' => e = .returned (.tuple #[.int .i64 (eachGo 0 p).1, .int .i64 (eachGo 0 p).2]) ∧ Kept w w' := by
  have HR : Hid (Rdy w) := hr
  have HA : Hid (AtP w a p) := hA
  have HC : Hid (∀ o ∈ p, o.cases.length ≤ 1000000) := hc
  clear hr hA hc
  go_enter Tryz.func87, Tryz.ntmps87
  go_wp2_with fail
  go_step3
  go_wp2_with fail
  go_step3
  go_wp2_with fail
  go_loopg [4, 5, 10] p.length (fun gk x4 x5 i wr => ∃ j : Nat, i = .int .i64 j ∧ x4 = .int .i64 0 ∧ x5 = .int .i64 0 ∧ j + gk = p.length ∧ Hid (eachGo 0 p = eachGo j (p.drop j)) ∧ Kept w wr)
  case atStart => exact ⟨0, rfl, rfl, rfl, by omega, (by show _ = _; rw [List.drop_zero]), Kept.refl w⟩
  case round =>
    obtain ⟨j, rfl, rfl, rfl, hj, HE, K⟩ := hrel
    by_cases hjp : j < p.length
    · obtain ⟨b, f, k, n, v, wt, l, ca, cc, rfl, hpj, g0, g1, g2, g3, g4, hcc, hat, hbl, hdr⟩ := (HA.out.kept K).get j hjp
      have b1 : (j : Int) < (p.length : Int) := by omega
      have b2 : (0 : Int) ≤ (j : Int) := by omega
      have hll : l.length ≤ 1000000 := HC.out _ (List.mem_of_getElem? hpj)
      have KB := K.alloc (.cells #[.int .i64 k, .int .i64 n, .int .i64 v, .int .i64 wt, .slice ca l.length cc] 37)
      have hck := check_any k n v wt ca l.length cc l _ (HR.out.kept KB) (hat.kept ((Kept.refl wr).alloc _)) hll hcc
      have HE2 : Hid (eachGo 0 p = if checkD ⟨k, n, v, wt, l⟩ = 0 then eachGo (j + 1) (p.drop (j + 1)) else (j, checkD ⟨k, n, v, wt, l⟩)) := by show _ = _; rw [HE.out, hdr, eachGo]
      obtain ⟨g3', rfl⟩ : ∃ g, gk = g + 1 := ⟨gk - 1, by omega⟩
      clear hpj hat hdr HE
      by_cases hz : checkD ⟨k, n, v, wt, l⟩ = 0
      · rw [hz] at hck
        have HE3 : Hid (eachGo 0 p = eachGo (j + 1) (p.drop (j + 1))) := by show _ = _; rw [HE2.out, if_pos hz]
        clear hz HE2
        go_wp2_with fail
        refine hck.mono ?_
        rintro e w2 ⟨rfl, t2⟩
        go_wp2_with fail
        go_roundg g3'
        case rel => exact ⟨j + 1, by go_num, rfl, rfl, by omega, HE3, KB.trans t2⟩
        case measure => omega
      · have hne : (checkD ⟨k, n, v, wt, l⟩ != 0) = true := by simp [hz]
        have HE3 : Hid (eachGo 0 p = (j, checkD ⟨k, n, v, wt, l⟩)) := by show _ = _; rw [HE2.out, if_neg hz]
        clear hz HE2
        go_wp2_with fail
        refine hck.mono ?_
        rintro e w2 ⟨rfl, t2⟩
        go_wp2_with fail
        try rw [Exit.noGoto_ret]
        go_ret2
        rw [HE3.out]
        exact ⟨rfl, KB.trans t2⟩
    · have b1 : ¬ (j : Int) < (p.length : Int) := by omega
      have HE3 : Hid (eachGo 0 p = (0, 0)) := by show _ = _; rw [HE.out, List.drop_eq_nil_of_le (by omega)]; rfl
      go_wp2_with fail
      try rw [Exit.noGoto_ret]
      go_ret2
      rw [HE3.out]
      exact ⟨rfl, K⟩

set_option maxHeartbeats 4000000 in
theorem order_any (a : Option Addr) (c : Nat) (p : List OpD) (w : World) (hr : Rdy w) (hA : AtP w a p) (hp : p.length ≤ 100000) (hc : ∀ o ∈ p, checkD o = 0) :
    Calls Tryz.prog 88 #[.slice a p.length c] w fun e w' => e = .returned (.tuple #[.int .i64 (ordGo 0 0 [] p).1, .int .i64 (ordGo 0 0 [] p).2]) ∧ Kept w w' := by
  have HR : Hid (Rdy w) := hr
  have HA : Hid (AtP w a p) := hA
  have HC : Hid (∀ o ∈ p, checkD o = 0) := hc
  have H0 : Hid (StP w.heap.size (w.alloc (.cells #[.int .u64 0, .slice none 0 0] 169)) w.heap.size (.slice none 0 0) 0 []) := ⟨box_new w.heap.size w 169 [.int .u64 0, .slice none 0 0] (Nat.le_refl _) (by simp), LRow.nil _ _, fun q hq => by simp [Value.ownBlock] at hq⟩
  clear hr hA hc
  go_enter Tryz.func88, Tryz.ntmps88
  go_wp2_with fail
  go_step3
  go_wp2_with fail
  go_step3
  go_wp2_with fail
  go_loopg [4, 5, 11] p.length (fun gk x4 x5 i wr => ∃ (j m : Nat) (lp : List Nat) (lv : Value), i = .int .i64 j ∧ x4 = .int .i64 0 ∧ x5 = .int .i64 0 ∧ j + gk = p.length ∧ m < 256 ∧ Hid (lp.length ≤ 3) ∧ Hid (ordGo 0 0 [] p = ordGo j m lp (p.drop j)) ∧ Hid (StP w.heap.size wr w.heap.size lv m lp) ∧ Kept w wr)
  case atStart => exact ⟨0, 0, [], _, rfl, rfl, rfl, by omega, by omega, (by show _ ≤ _; simp), (by show _ = _; rw [List.drop_zero]), H0, (Kept.refl w).alloc _⟩
  case round =>
    obtain ⟨j, m, lp, lv, rfl, rfl, rfl, hj, hm, HL, HE, HS, K⟩ := hrel
    by_cases hjp : j < p.length
    · obtain ⟨b, f, k, n, v, wt, l, ca, cc, rfl, hpj, g0, g1, g2, g3, g4, hcc, hat, hbl, hdr⟩ := (HA.out.kept K).get j hjp
      have b1 : (j : Int) < (p.length : Int) := by omega
      have b2 : (0 : Int) ≤ (j : Int) := by omega
      have HCK : Hid (checkD ⟨k, n, v, wt, l⟩ = 0) := HC.out _ (List.mem_of_getElem? hpj)
      have KB := K.alloc (.cells #[.int .i64 k, .int .i64 n, .int .i64 v, .int .i64 wt, .slice ca l.length cc] 37)
      have HSB : Hid (StP w.heap.size (wr.alloc (.cells #[.int .i64 k, .int .i64 n, .int .i64 v, .int .i64 wt, .slice ca l.length cc] 37)) w.heap.size lv m lp) := HS.out.kept ((Kept.refl wr).alloc _)
      have htk := stakes_any w.heap.size w.heap.size m lv lp ca cc ⟨k, n, v, wt, l⟩ _ HSB.out hm HL.out HCK.out (HR.out.kept KB)
      simp only at htk
      have HE2 : Hid (ordGo 0 0 [] p = ordGo j m lp (⟨k, n, v, wt, l⟩ :: p.drop (j + 1))) := by show _ = _; rw [HE.out, hdr]
      obtain ⟨g3', rfl⟩ : ∃ g, gk = g + 1 := ⟨gk - 1, by omega⟩
      clear hpj hat hdr HE
      go_wp2_with fail
      refine htk.mono ?_
      rintro e w2 ⟨t2, hpost⟩
      have K2 := t2.kept KB (fun i hi => hi)
      rcases hpost with ⟨hn, rfl⟩ | ⟨m', lp', lv', hsome, rfl, hst⟩
      · have HE3 : Hid (ordGo 0 0 [] p = (j, 11)) := by show _ = _; rw [HE2.out, ordGo, hn]
        clear hn HE2
        go_wp2_with fail
        try rw [Exit.noGoto_ret]
        go_ret2
        rw [HE3.out]
        exact ⟨rfl, K2⟩
      · have hsm := take_small hm HL.out HCK.out hsome
        have HE3 : Hid (ordGo 0 0 [] p = if p.drop (j + 1) = [] ∧ (m' ≠ 0 ∨ lp' ≠ []) then (j, 11) else ordGo (j + 1) m' lp' (p.drop (j + 1))) := by show _ = _; rw [HE2.out, ordGo, hsome]
        have HS2 : Hid (StP w.heap.size w2 w.heap.size lv' m' lp') := hst
        have HL2 : Hid (lp'.length ≤ 3) := hsm.2
        have hm2 : m' < 256 := hsm.1
        clear hsome HE2 hst hsm
        by_cases hlast : j + 1 = p.length
        · have e1 : ((j : Int) == (p.length : Int) - 1) = true := by simp; omega
          have hop := open_any w.heap.size w.heap.size m' lv' lp' w2 HS2.out
          have HD : Hid (p.drop (j + 1) = []) := List.drop_eq_nil_of_le (by omega)
          by_cases ho : m' ≠ 0 ∨ lp' ≠ []
          · have HE4 : Hid (ordGo 0 0 [] p = (j, 11)) := by show _ = _; rw [HE3.out, if_pos ⟨HD.out, ho⟩]
            rw [decide_eq_true ho] at hop
            clear HE3 ho
            go_wp2_with fail
            refine hop.mono ?_
            rintro e w3 ⟨rfl, hw3⟩
            subst w3
            go_wp2_with fail
            try rw [Exit.noGoto_ret]
            go_ret2
            rw [HE4.out]
            exact ⟨rfl, K2⟩
          · have HE4 : Hid (ordGo 0 0 [] p = ordGo (j + 1) m' lp' (p.drop (j + 1))) := by show _ = _; rw [HE3.out, if_neg (fun h => ho h.2)]
            rw [decide_eq_false ho] at hop
            clear HE3 ho
            go_wp2_with fail
            refine hop.mono ?_
            rintro e w3 ⟨rfl, hw3⟩
            subst w3
            go_wp2_with fail
            go_roundg g3'
            case rel => exact ⟨j + 1, m', lp', lv', by go_num, rfl, rfl, by omega, hm2, HL2, HE4, HS2, K2⟩
            case measure => omega
        · have e1 : ((j : Int) == (p.length : Int) - 1) = false := beq_eq_false_iff_ne.2 (by omega)
          have HE4 : Hid (ordGo 0 0 [] p = ordGo (j + 1) m' lp' (p.drop (j + 1))) := by
            show _ = _
            rw [HE3.out, if_neg (fun h => ?_)]
            have := congrArg List.length h.1
            simp at this
            omega
          clear HE3
          go_wp2_with fail
          go_roundg g3'
          case rel => exact ⟨j + 1, m', lp', lv', by go_num, rfl, rfl, by omega, hm2, HL2, HE4, HS2, K2⟩
          case measure => omega
    · have b1 : ¬ (j : Int) < (p.length : Int) := by omega
      have HE3 : Hid (ordGo 0 0 [] p = (0, 0)) := by show _ = _; rw [HE.out, List.drop_eq_nil_of_le (by omega)]; rfl
      go_wp2_with fail
      try rw [Exit.noGoto_ret]
      go_ret2
      rw [HE3.out]
      exact ⟨rfl, K⟩
end Go.Proofs.YtolljdomnohmdabGreatDoor
