/- The reference's ring: how it lies in memory; NewRing, Push and Pop by their contracts. -/
import Derived.Test.YtlegbdbepjcloaaKnown
namespace Go.Proofs.Ytlegbdbepjcloaa
open Go.RowKit Go.Conc

/-- The reference's ring in memory: mb its block, most its room, lv the slice of its row. -/
structure RM (B : Nat) (w : World) (mb most : Nat) (lv : Value) (l : List Int) : Prop where
  own : IntRow B w lv l
  hd : w.ownsRow B 37 2 (.slice (some ⟨mb, 0, none⟩) 1 1) 1 [.int .i64 most, lv]
  d : lv.ownBlock ≠ some mb
  len : l.length ≤ most
  most16 : most ≤ 16

/-- Its blocks. -/
def MFoot (mb : Nat) (lv : Value) (k : Nat) : Prop := k = mb ∨ lv.ownBlock = some k

section
variable {B : Nat} {w w' : World} {mb most : Nat} {lv : Value} {l : List Int}
theorem RM.foot (h : RM B w mb most lv l) : ∀ k, MFoot mb lv k → B ≤ k ∧ k < w.heap.size := by
  intro k hk
  rcases hk with rfl | hk
  · exact h.hd.lt _ rfl
  · exact World.ownsRow.lt h.own _ hk
theorem RM.turns {S : Nat → Prop} (h : RM B w mb most lv l) (t : Turns S w w') (hS : ∀ k, S k → ¬ MFoot mb lv k) : RM B w' mb most lv l :=
  ⟨h.own.turns t (fun k hk hs => hS k hs (.inr hk)), owns_turns h.hd t (fun k hk hs => hS k hs (.inl (by simpa [Value.ownBlock] using hk.symm))), h.d, h.len, h.most16⟩
theorem RM.keep (h : RM B w mb most lv l) (t : Turns (fun _ => False) w w') : RM B w' mb most lv l := h.turns t (fun _ x => x.elim)
theorem RM.c0 (h : RM B w mb most lv l) : w.cell? ⟨mb, 0, none⟩ = some (.int .i64 most) := by
  rw [h.hd.cellAt 0 (by omega)]; rfl
theorem RM.c1 (h : RM B w mb most lv l) : w.cell? ⟨mb, 1, none⟩ = some lv := by
  rw [h.hd.cellAt 1 (by omega)]; rfl
theorem RM.f0 (h : RM B w mb most lv l) (j : Nat) : w.frozen? ⟨mb, j, none⟩ = false := h.hd.frozenAt j
theorem RM.mb_lt (h : RM B w mb most lv l) : mb < w.heap.size := (h.foot mb (.inl rfl)).2
theorem RM.frame {w0 : World} (h : RM B w mb most lv l) (hB : w0.heap.size ≤ B) (T : Turns (fun _ => False) w0 w) (t : Turns (fun k => k = mb) w w') : Turns (fun _ => False) w0 w' :=
  T.next t (fun k hk hf => by have := (h.foot k (.inl hf)).1; omega)
theorem RM.form (h : RM B w mb most lv l) : (lv = .slice none 0 0 ∧ l = []) ∨ ∃ g cap, lv = .slice (some ⟨g, 0, none⟩) l.length cap ∧ l.length ≤ cap ∧ mb ≠ g := by
  rcases h.own.2 with ⟨h1, h2⟩ | ⟨g, cap, cur, h1, _, _, h3, _⟩
  · exact .inl ⟨h1, List.eq_nil_of_length_eq_zero h2⟩
  · refine .inr ⟨g, cap, h1, h3, ?_⟩
    intro e; apply h.d; rw [h1, e]; rfl
end

/-- What Push, Pop leave: the struct's block has turned, the row lies in a new one. -/
structure MOut (B : Nat) (w w' : World) (mb most : Nat) (lv' : Value) (l' : List Int) : Prop where
  rm : RM B w' mb most lv' l'
  tu : Turns (fun k => k = mb) w w'
  nw : ∀ k, lv'.ownBlock = some k → w.heap.size ≤ k

/-- Behind an append to a new row, and its store. -/
theorem new_out {B : Nat} {w w2 : World} {mb most g n cap : Nat} {lv : Value} {l l' : List Int} (h : RM B w mb most lv l) (t2 : Turns (fun _ => False) w w2) (hg : w.heap.size ≤ g)
    (o2 : IntRow B w2 (.slice (some ⟨g, 0, none⟩) n cap) l') (hl : l'.length ≤ most) :
    w2.cell? ⟨mb, 1, none⟩ = some lv ∧ (∀ j, w2.frozen? ⟨mb, j, none⟩ = false) ∧ MOut B w (w2.setCell ⟨mb, 1, none⟩ (.slice (some ⟨g, 0, none⟩) n cap)) mb most (.slice (some ⟨g, 0, none⟩) n cap) l' := by
  have hlt := h.mb_lt
  have h2 := h.keep t2
  have s2 := (h2.hd.stored 1 (.slice (some ⟨g, 0, none⟩) n cap)).1
  have t3 : Turns (fun k => k = mb) w2 (w2.setCell ⟨mb, 1, none⟩ (.slice (some ⟨g, 0, none⟩) n cap)) := Turns.setCell (S := fun k => k = mb) (Turns.refl _ _) (p := ⟨mb, 1, none⟩) rfl _
  refine ⟨h2.c1, h2.f0, ⟨⟨?_, s2, ?_, hl, h.most16⟩, (t2.mono (fun _ _ x => x.elim)).trans t3, ?_⟩⟩
  · exact o2.turns t3 (fun k e1 e2 => by simp [Value.ownBlock] at e1; omega)
  · simp [Value.ownBlock]; omega
  · intro k e; simp [Value.ownBlock] at e; omega
theorem app_ge {w0 w : World} {o : Obj} {g g1 : Nat} (h : g = g1 ∨ g = (w.alloc o).heap.size) (h1 : w0.heap.size ≤ g1) (h2 : w0.heap.size ≤ w.heap.size) : w0.heap.size ≤ g := by
  have : (w.alloc o).heap.size = w.heap.size + 1 := by simp
  omega
theorem app_turns {w0 w w' : World} {o : Obj} {g1 : Nat} (t : Turns (fun _ => False) w0 w) (g : (w.alloc o).grownBy w' (some g1)) (h1 : w0.heap.size ≤ g1) : Turns (fun _ => False) w0 w' :=
  (t.alloc o).next (Turns.grown (S := fun j => j = g1) g (fun j e => by cases e; rfl)) (fun j hj e => by omega)

set_option maxHeartbeats 400000 in
theorem rnew_ok (B n : Nat) (w : World) (hB : B ≤ w.heap.size) (hn : n ≤ 16) :
    Calls Try.prog 9 #[.int .i64 n] w fun e w' => ∃ mb, e = .returned (.tuple #[.pointer (some ⟨mb, 0, none⟩), .int .i64 0]) ∧ RM B w' mb n (.slice none 0 0) [] ∧ Turns (fun _ => False) w w' ∧ w.heap.size ≤ mb := by
  have n1 : ¬ (n : Int) < 0 := by omega
  have n2 : ¬ (n : Int) > 16 := by omega
  have n3 : ¬ (16 : Int) < (n : Int) := by omega
  go_enter Try.func9, Try.ntmps9
  go_wp2
  go_ret2
  refine ⟨w.heap.size, rfl, ⟨World.ownsRow_nil _ _ _ _, World.ownsRow_lit w #[.int .i64 n, .slice none 0 0] 1 hB (by unfold maxLen; omega) rfl, by simp [Value.ownBlock], by simp, hn⟩, (Turns.refl _ _).alloc _, Nat.le_refl _⟩

set_option maxHeartbeats 400000 in
theorem rnew_bad (room : Int) (w : World) (hr : room < 0 ∨ 16 < room) :
    Calls Try.prog 9 #[.int .i64 room] w fun e w' => e = .returned (.tuple #[.pointer none, .int .i64 1]) ∧ w' = w := by
  rcases hr with hr | hr
  · have n1 : room < 0 := hr
    go_enter Try.func9, Try.ntmps9
    go_wp2
    go_ret2
    exact ⟨rfl, rfl⟩
  · have n1 : ¬ room < 0 := by omega
    have n2 : room > 16 := hr
    go_enter Try.func9, Try.ntmps9
    go_wp2
    go_ret2
    exact ⟨rfl, rfl⟩

set_option maxHeartbeats 400000 in
theorem rpush_full {B : Nat} {w : World} {mb most : Nat} {lv : Value} {l : List Int} (v : Int) (h : RM B w mb most lv l) (hl : most ≤ l.length) :
    Calls Try.prog 13 #[.pointer (some ⟨mb, 0, none⟩), .int .i64 v] w fun e w' => e = .returned (.bool false) ∧ Turns (fun _ => False) w w' := by
  have hc0 := h.c0
  have hc1 := h.c1
  obtain ⟨a, c, rfl, _⟩ := h.own.sl
  have b1 : (most : Int) ≤ (l.length : Int) := by omega
  go_enter Try.func13, Try.ntmps13
  go_wp2_with fail
  go_quiet (fail)
  go_wp2_with fail
  go_ret
  exact ⟨rfl, (Turns.refl _ _).drewN _⟩

set_option maxHeartbeats 2000000 in
theorem rpush_room {B : Nat} {w : World} {mb most : Nat} {lv : Value} {l : List Int} (v : Int) (h : RM B w mb most lv l) (hl : l.length < most) (hB : B ≤ w.heap.size) :
    Calls Try.prog 13 #[.pointer (some ⟨mb, 0, none⟩), .int .i64 v] w fun e w' => e = .returned (.bool true) ∧ ∃ lv', MOut B w w' mb most lv' (l ++ [v]) := by
  have hc0 := h.c0
  have hc1 := h.c1
  have hlt := h.mb_lt
  have hm := h.most16
  obtain ⟨a, c, rfl, _⟩ := h.own.sl
  have b1 : ¬ (most : Int) ≤ (l.length : Int) := by omega
  have b2 : ¬ most ≤ l.length := by omega
  go_enter Try.func13, Try.ntmps13
  go_wp2_with fail
  go_quiet (fail)
  have tW : Turns (fun _ => False) w (w.drewN nq) := (Turns.refl _ _).drewN nq
  have hW := h.keep tW
  have hBW : B ≤ (w.drewN nq).heap.size := hB
  have hsW : w.heap.size ≤ (w.drewN nq).heap.size := Nat.le_refl _
  generalize w.drewN nq = W at *
  clear hc0 hc1 hlt
  have hc1 := hW.c1
  have hlt := hW.mb_lt
  have n1 := made_ints B W hBW
  have s1 := IntRow.src hW.own
  have s2 := s1.turns ((Turns.refl (fun _ => False) W).alloc (.cells #[] 2))
  have hle1 : l.length ≤ 100000 := by omega
  have hle : l.length + [v].length ≤ 100000 := by simp; omega
  have hlm : (l ++ [v]).length ≤ most := by simp; omega
  go_wp2_with (first | (at_builtin; refine wpList_append_ints _ (by rfl) _ _ rfl B (.slice (some ⟨g1, 0, none⟩) l.length c1) _ l [v] (by rfl) (by rfl) (o1.keep ((Turns.refl (fun _ => False) _).alloc _)) (lit_one w1 v) (.inr (by simp)) hle (le_alloc _ hB1) ?_; intro g2 c2 w2 o2 gr2 at2; have T2 := app_turns T1 gr2 hg1; have hg2 := app_ge (at2.imp (fun x => (by simpa [Value.ownBlock] using x.symm)) (fun x => x)) hg1 T1.size; have R := new_out hW T2 hg2 o2 hlm; have r1 := R.1; have r2 := R.2.1) | (at_builtin; refine wpList_copy_ints _ (by rfl) _ _ rfl B W.heap.size _ l (by rfl) (by rfl) n1 s2 hle1 (le_alloc _ hBW) ?_; intro g1 c1 w1 o1 gr1 at1; have T1 := app_turns (Turns.refl _ W) gr1 (Nat.le_refl _); have hg1 := app_ge at1 (Nat.le_refl _) (Nat.le_refl _); have hB1 := Nat.le_trans hBW T1.size))
  go_ret
  exact ⟨rfl, _, R.2.2.rm, (tW.mono (fun _ _ x => x.elim)).trans R.2.2.tu, fun k e => Nat.le_trans hsW (R.2.2.nw k e)⟩

set_option maxHeartbeats 400000 in
theorem rpop_none {B : Nat} {w : World} {mb most : Nat} {lv : Value} (h : RM B w mb most lv []) :
    Calls Try.prog 14 #[.pointer (some ⟨mb, 0, none⟩)] w fun e w' => e = .returned (.tuple #[.int .i64 0, .bool false]) ∧ w' = w := by
  have hc1 := h.c1
  obtain ⟨a, c, rfl, _⟩ := h.own.sl
  go_enter Try.func14, Try.ntmps14
  go_wp2_with fail
  go_ret2
  exact ⟨rfl, rfl⟩

theorem src_tail {B g cap : Nat} {w : World} {x : Int} {l : List Int} (h : IntRow B w (.slice (some ⟨g, 0, none⟩) (l.length + 1) cap) (x :: l)) : IntSrc w (.slice (some ⟨g, 1, none⟩) l.length (cap - 1)) l := by
  refine .inr ⟨⟨g, 1, none⟩, cap - 1, rfl, ?_⟩
  intro j u hu
  have h' : w.ownsRow B 2 1 (.slice (some ⟨g, 0, none⟩) (l.length + 1) cap) (l.length + 1) ((x :: l).map intV) := h
  have hj : j < l.length := by have := (List.getElem?_eq_some_iff.1 hu).1; simpa using this
  rw [Addr.add_lit, h'.cellAt (1 + j) (by omega), Nat.add_comm 1 j, List.map_cons, List.getElem?_cons_succ]
  exact hu

set_option maxHeartbeats 2000000 in
theorem rpop_some {B : Nat} {w : World} {mb most : Nat} {lv : Value} {x : Int} {l : List Int} (h : RM B w mb most lv (x :: l)) (hB : B ≤ w.heap.size) :
    Calls Try.prog 14 #[.pointer (some ⟨mb, 0, none⟩)] w fun e w' => e = .returned (.tuple #[.int .i64 x, .bool true]) ∧ ∃ lv', MOut B w w' mb most lv' l := by
  have hc1 := h.c1
  have hlt := h.mb_lt
  have hm := h.most16
  have hl := h.len
  have hf := h.f0
  rw [List.length_cons] at hl
  have hlm : l.length ≤ most := by omega
  rcases h.form with ⟨_, hnil⟩ | ⟨g, cap, rfl, hcap, hne⟩
  · cases hnil
  · rw [List.length_cons] at *
    have HO : Hid (IntRow B w (.slice (some ⟨g, 0, none⟩) (l.length + 1) cap) (x :: l)) := h.own
    have gx : w.cell? ⟨g, 0, none⟩ = some (.int .i64 x) := by
      have h' : w.ownsRow B 2 1 (.slice (some ⟨g, 0, none⟩) (l.length + 1) cap) (l.length + 1) ((x :: l).map intV) := h.own
      rw [h'.cellAt 0 (by omega)]; rfl
    have n1 := made_ints B w hB
    have hle1 : l.length ≤ 100000 := by omega
    have hb0 : ¬ ((l.length : Int) + 1 = 0) := by omega
    have hb1 : (0 : Int) < (l.length : Int) + 1 := by omega
    have hb2 : (1 : Int) ≤ (l.length : Int) + 1 := by omega
    have hb3 : (1 : Int) ≤ (cap : Int) := by omega
    have hb4 : (l.length : Int) + 1 ≤ (cap : Int) := by omega
    by_cases hc : cap = 1
    · subst hc
      have hl0 : l = [] := List.eq_nil_of_length_eq_zero (by omega)
      subst hl0
      have s2 : IntSrc (w.alloc (.cells #[] 2)) (.slice (some ⟨g, 0, none⟩) 0 0) [] := .inr ⟨_, _, rfl, fun j u hu => by simp at hu⟩
      go_enter Try.func14, Try.ntmps14
      go_wp2_with (at_builtin; refine wpList_copy_ints _ (by rfl) _ _ rfl B w.heap.size _ [] (by rfl) (by rfl) n1 s2 hle1 (le_alloc _ hB) ?_; intro g1 c1 w1 o1 gr1 at1; have T1 := app_turns (Turns.refl _ w) gr1 (Nat.le_refl _); have hg1 := app_ge at1 (Nat.le_refl _) (Nat.le_refl _); have R := new_out h T1 hg1 o1 hlm; have r1 := R.1; have r2 := R.2.1)
      go_ret2
      exact ⟨rfl, _, R.2.2⟩
    · have s2 := (src_tail HO.out).turns ((Turns.refl (fun _ => False) w).alloc (.cells #[] 2))
      go_enter Try.func14, Try.ntmps14
      go_wp2_with (at_builtin; refine wpList_copy_ints _ (by rfl) _ _ rfl B w.heap.size _ l (by rfl) (by rfl) n1 s2 hle1 (le_alloc _ hB) ?_; intro g1 c1 w1 o1 gr1 at1; have T1 := app_turns (Turns.refl _ w) gr1 (Nat.le_refl _); have hg1 := app_ge at1 (Nat.le_refl _) (Nat.le_refl _); have R := new_out h T1 hg1 o1 hlm; have r1 := R.1; have r2 := R.2.1)
      go_ret2
      exact ⟨rfl, _, R.2.2⟩
end Go.Proofs.Ytlegbdbepjcloaa
