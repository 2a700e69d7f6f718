/- Put of a timer, and the reference's, by their contracts. -/
import Derived.Test.YtohgjdefgabfeaaApp
namespace Go.Proofs.Ytohgjdefgabfeaa
open Go.RowKit Tm

/-- May id be put, so many Ticks ahead? -/
def fitP (id n : Int) : Prop := 0 ≤ id ∧ id ≤ 255 ∧ 1 ≤ n ∧ n ≤ 1099511627776
theorem fit_not {id n : Int} (h : ¬ fitP id n) : (id < 0) ∨ (0 ≤ id ∧ 255 < id) ∨ (0 ≤ id ∧ id ≤ 255 ∧ n < 1) ∨ (0 ≤ id ∧ id ≤ 255 ∧ 1 ≤ n ∧ 1099511627776 < n) := by
  unfold fitP at h; omega

/-- The row's block is the old one's, or a new one. -/
def Newer (w : World) (rv rv' : Value) : Prop := ∀ k, rv'.ownBlock = some k → rv.ownBlock = some k ∨ w.heap.size ≤ k

/-- What Put, Cancel, Tick leave. -/
structure Out (e s : TypeId) (B : Nat) (w w' : World) (tb : Nat) (rv rv' : Value) (row' : List Du) : Prop where
  tp : TP e s B w' tb rv' row'
  tu : Turns (Foot tb rv) w w'
  nw : Newer w rv rv'

theorem Out.same {e s : TypeId} {B : Nat} {w w' : World} {tb : Nat} {rv : Value} {row : List Du} (h : TP e s B w tb rv row) (t : Turns (fun _ => False) w w') : Out e s B w w' tb rv rv row :=
  ⟨h.keep t, t.mono (fun _ _ x => x.elim), fun _ e => .inl e⟩
theorem Out.foot {e s : TypeId} {B : Nat} {w w' : World} {tb : Nat} {rv rv' : Value} {row' : List Du} (h : Out e s B w w' tb rv rv' row') (k : Nat) (hk : Foot tb rv' k) : Foot tb rv k ∨ w.heap.size ≤ k := by
  rcases hk with hk | hk
  · exact .inl (.inl hk)
  · rcases h.nw k hk with h1 | h1
    · exact .inl (.inr h1)
    · exact .inr h1

/-- Behind an append to the timer's own row, and its store. -/
theorem app_out {e s : TypeId} {B : Nat} {w w1 w2 : World} {tb g n cap : Nat} {rv : Value} {row row' : List Du} {o : Obj} (h : TP e s B w tb rv row) (t1 : Turns (fun _ => False) w w1) (gr : (w1.alloc o).grownBy w2 rv.ownBlock) (at2 : rv.ownBlock = some g ∨ g = (w1.alloc o).heap.size)
    (hn : n = row'.length) (o2 : DuRow e B w2 (.slice (some ⟨g, 0, none⟩) n cap) row') (hp : Pos row') (hl : row'.length ≤ 1000) :
    w2.cell? ⟨tb, 0, none⟩ = some rv ∧ (∀ j, w2.frozen? ⟨tb, j, none⟩ = false) ∧ Out e s B w (w2.setCell ⟨tb, 0, none⟩ (.slice (some ⟨g, 0, none⟩) n cap)) tb rv (.slice (some ⟨g, 0, none⟩) n cap) row' := by
  have hs := t1.size
  have hz : (w1.alloc o).heap.size = w1.heap.size + 1 := by simp
  have t2 : Turns (fun k => rv.ownBlock = some k) w w2 := ((t1.alloc o).mono (fun _ _ x => x.elim)).trans (Turns.grown gr (fun k e => e))
  have hlt := h.tb_lt
  have hg : g ≠ tb := by
    rcases at2 with a | a
    · intro e; exact h.d (by rw [a, e])
    · omega
  subst hn
  obtain ⟨r1, r2, r3, r4⟩ := tp_store h t2 h.d o2 (by simpa [Value.ownBlock] using hg) hp hl
  refine ⟨r1, r2, r3, r4, ?_⟩
  intro k hk
  simp [Value.ownBlock] at hk
  subst hk
  rcases at2 with a | a
  · exact .inl a
  · right; omega

set_option maxHeartbeats 1000000 in
theorem put_arg {B : Nat} {w : World} {tb : Nat} {rv : Value} {row : List Du} (id n : Int) (_h : TP 57 53 B w tb rv row) (hn : ¬ fitP id n) :
    Calls Try.prog 9 #[.pointer (some ⟨tb, 0, none⟩), .int .i64 id, .int .i64 n] w fun e w' => e = .returned (.int .i64 1) ∧ w' = w := by
  rcases fit_not hn with h1 | ⟨h1, h2⟩ | ⟨h1, h2, h3⟩ | ⟨h1, h2, h3, h4⟩
  all_goals
    clear hn
    go_enter Try.func9, Try.ntmps9
    go_wp2_with fail
    go_ret
    exact ⟨rfl, rfl⟩

set_option maxHeartbeats 1000000 in
theorem put_twice {B : Nat} {w : World} {tb : Nat} {rv : Value} {row : List Du} (id n : Int) (h : TP 57 53 B w tb rv row) (hn : fitP id n) (hf : hasB row id = true) :
    Calls Try.prog 9 #[.pointer (some ⟨tb, 0, none⟩), .int .i64 id, .int .i64 n] w fun e w' => e = .returned (.int .i64 6) ∧ Turns (fun _ => False) w w' := by
  obtain ⟨h1, h2, h3, h4⟩ := hn
  have e1 : decide (id < 0) = false := decide_eq_false (by omega)
  have e2 : decide (255 < id) = false := decide_eq_false (by omega)
  have e3 : decide (n < 1) = false := decide_eq_false (by omega)
  have e4 : decide (1099511627776 < n) = false := decide_eq_false (by omega)
  have HF : Hid (hasB row id = true) := hf
  clear hf h1 h2 h3 h4
  go_enter Try.func9, Try.ntmps9
  go_wp2_with fail
  refine (find_any id h).mono ?_
  rintro e w1 ⟨rfl, t1⟩
  rw [HF.out]
  go_wp2_with fail
  go_ret
  exact ⟨rfl, t1⟩

set_option maxHeartbeats 2000000 in
theorem put_ok {B : Nat} {w : World} {tb : Nat} {rv : Value} {row : List Du} (id n : Int) (h : TP 57 53 B w tb rv row) (hn : fitP id n) (hf : hasB row id = false) (hl : row.length < 1000) (hB : B ≤ w.heap.size) :
    Calls Try.prog 9 #[.pointer (some ⟨tb, 0, none⟩), .int .i64 id, .int .i64 n] w fun e w' => e = .returned (.int .i64 0) ∧ ∃ rv', Out 57 53 B w w' tb rv rv' (row ++ [⟨id, n⟩]) := by
  obtain ⟨h1, h2, h3, h4⟩ := hn
  have HPS : Hid (Pos (row ++ [⟨id, n⟩])) := h.pos.snoc id n h3 h4
  have e1 : decide (id < 0) = false := decide_eq_false (by omega)
  have e2 : decide (255 < id) = false := decide_eq_false (by omega)
  have e3 : decide (n < 1) = false := decide_eq_false (by omega)
  have e4 : decide (1099511627776 < n) = false := decide_eq_false (by omega)
  have HF : Hid (hasB row id = false) := hf
  clear hf h1 h2 h3 h4
  go_enter Try.func9, Try.ntmps9
  go_wp2_with fail
  refine (find_any id h).mono ?_
  rintro e w1 ⟨rfl, t1⟩
  rw [HF.out]
  have hw := h.keep t1
  have hc := hw.c0
  have hs := t1.size
  rcases h.form with ⟨rfl, hnil⟩ | ⟨g0, cap0, rfl, hnil, hne⟩
  all_goals
    clear hnil
    go_wp2_with (at_builtin; refine wpList_append_dus kT _ (by rfl) _ _ rfl B _ _ row [⟨id, n⟩] (by rfl) (by rfl) (owns_turns hw.own ((Turns.refl (fun _ => False) w1).alloc _) (fun _ _ x => x)) (lit_du 57 w1 ⟨id, n⟩) (.inr (by simp)) (by simp; omega) (le_alloc _ (by omega)) ?_; intro g2 c2 w2 o2 gr2 at2; have R := app_out h t1 gr2 at2 (by simp) o2 HPS.out (by simp; omega); have r1 := R.1; have r2 := R.2.1)
    go_ret
    exact ⟨rfl, _, R.2.2⟩

/-- What Put answers, and the row then. -/
def putE (row : List Du) (id n : Int) : Int := if 0 ≤ id ∧ id ≤ 255 ∧ 1 ≤ n ∧ n ≤ 1099511627776 then (if hasB row id = true then 6 else 0) else 1
def putR (row : List Du) (id n : Int) : List Du := if (0 ≤ id ∧ id ≤ 255 ∧ 1 ≤ n ∧ n ≤ 1099511627776) ∧ hasB row id = false then row ++ [⟨id, n⟩] else row
theorem put_cases (row : List Du) (id n : Int) : (¬ fitP id n ∧ putE row id n = 1 ∧ putR row id n = row) ∨ (fitP id n ∧ hasB row id = true ∧ putE row id n = 6 ∧ putR row id n = row) ∨ (fitP id n ∧ hasB row id = false ∧ putE row id n = 0 ∧ putR row id n = row ++ [⟨id, n⟩]) := by
  unfold putE putR fitP
  by_cases h1 : 0 ≤ id ∧ id ≤ 255 ∧ 1 ≤ n ∧ n ≤ 1099511627776
  · cases h2 : hasB row id
    · right; right; refine ⟨h1, rfl, ?_, ?_⟩ <;> simp [h1]
    · right; left; refine ⟨h1, rfl, ?_, ?_⟩ <;> simp [h1]
  · left; rw [if_neg h1, if_neg (fun h => h1 h.1)]; exact ⟨h1, rfl, rfl⟩

theorem put_any {B : Nat} {w : World} {tb : Nat} {rv : Value} {row : List Du} (id n : Int) (h : TP 57 53 B w tb rv row) (hl : row.length < 1000) (hB : B ≤ w.heap.size) :
    Calls Try.prog 9 #[.pointer (some ⟨tb, 0, none⟩), .int .i64 id, .int .i64 n] w fun e w' => e = .returned (.int .i64 (putE row id n)) ∧ ∃ rv', Out 57 53 B w w' tb rv rv' (putR row id n) := by
  rcases put_cases row id n with ⟨h1, h2, h3⟩ | ⟨h1, h2, h3, h4⟩ | ⟨h1, h2, h3, h4⟩
  · rw [h2, h3]
    refine (put_arg id n h h1).mono ?_
    rintro e w' ⟨rfl, rfl⟩
    exact ⟨rfl, _, Out.same h (Turns.refl _ _)⟩
  · rw [h3, h4]
    refine (put_twice id n h h1 h2).mono ?_
    rintro e w' ⟨rfl, t⟩
    exact ⟨rfl, _, Out.same h t⟩
  · rw [h3, h4]
    exact put_ok id n h h1 h2 hl hB

theorem has_of {row : List Du} {id : Int} (h : hasB row id = true) : 0 ≤ findL row id := by
  rcases findL_cases row id with ⟨hf, _⟩ | ⟨k, _, _, hf, _⟩
  · rw [(plc_none hf).2] at h; cases h
  · omega
theorem has_not {row : List Du} {id : Int} (h : hasB row id = false) : findL row id = -1 := by
  rcases findL_cases row id with ⟨hf, _⟩ | ⟨k, _, _, hf, _⟩
  · exact hf
  · rw [(plc_some hf).2] at h; cases h

set_option maxHeartbeats 1000000 in
theorem rput_arg {B : Nat} {w : World} {tb : Nat} {rv : Value} {row : List Du} (id n : Int) (_h : TP 59 29 B w tb rv row) (hn : ¬ fitP id n) :
    Calls Try.prog 10 #[.pointer (some ⟨tb, 0, none⟩), .int .i64 id, .int .i64 n] w fun e w' => e = .returned (.int .i64 1) ∧ w' = w := by
  rcases fit_not hn with h1 | ⟨h1, h2⟩ | ⟨h1, h2, h3⟩ | ⟨h1, h2, h3, h4⟩
  all_goals
    clear hn
    go_enter Try.func10, Try.ntmps10
    go_wp2_with fail
    go_ret
    exact ⟨rfl, rfl⟩

set_option maxHeartbeats 1000000 in
theorem rput_twice {B : Nat} {w : World} {tb : Nat} {rv : Value} {row : List Du} (id n : Int) (h : TP 59 29 B w tb rv row) (hn : fitP id n) (hf : hasB row id = true) :
    Calls Try.prog 10 #[.pointer (some ⟨tb, 0, none⟩), .int .i64 id, .int .i64 n] w fun e w' => e = .returned (.int .i64 6) ∧ w' = w := by
  obtain ⟨h1, h2, h3, h4⟩ := hn
  have e1 : decide (id < 0) = false := decide_eq_false (by omega)
  have e2 : decide (255 < id) = false := decide_eq_false (by omega)
  have e3 : decide (n < 1) = false := decide_eq_false (by omega)
  have e4 : decide (1099511627776 < n) = false := decide_eq_false (by omega)
  have hf' := has_of hf
  clear hf h1 h2 h3 h4
  go_enter Try.func10, Try.ntmps10
  go_wp2_with fail
  refine (rfind_any id h).mono ?_
  rintro e w1 ⟨rfl, hw⟩
  subst w1
  go_wp2_with fail
  go_ret
  exact ⟨rfl, rfl⟩

/-- Behind an append to a new row, and its store. -/
theorem new_out {e s : TypeId} {B : Nat} {w w2 : World} {tb g n cap : Nat} {rv : Value} {row row' : List Du} (h : TP e s B w tb rv row) (t2 : Turns (fun _ => False) w w2) (hg : w.heap.size ≤ g)
    (hn : n = row'.length) (o2 : DuRow e B w2 (.slice (some ⟨g, 0, none⟩) n cap) row') (hp : Pos row') (hl : row'.length ≤ 1000) :
    w2.cell? ⟨tb, 0, none⟩ = some rv ∧ (∀ j, w2.frozen? ⟨tb, j, none⟩ = false) ∧ Out e s B w (w2.setCell ⟨tb, 0, none⟩ (.slice (some ⟨g, 0, none⟩) n cap)) tb rv (.slice (some ⟨g, 0, none⟩) n cap) row' := by
  have hlt := h.tb_lt
  subst hn
  obtain ⟨r1, r2, r3, r4⟩ := tp_store h t2 (fun x => x) o2 (by simp [Value.ownBlock]; omega) hp hl
  refine ⟨r1, r2, r3, r4.mono (fun k _ x => by rcases x with x | x; exact .inl x; exact x.elim), ?_⟩
  intro k hk
  simp [Value.ownBlock] at hk
  right; omega
theorem app_ge {w0 w : World} {o : Obj} {g g1 : Nat} (h : g = g1 ∨ g = (w.alloc o).heap.size) (h1 : w0.heap.size ≤ g1) (h2 : w0.heap.size ≤ w.heap.size) : w0.heap.size ≤ g := by
  have : (w.alloc o).heap.size = w.heap.size + 1 := by simp
  omega
/-- An append behind a block that was just laid: of the old nothing has turned. -/
theorem app_turns {w0 w w' : World} {o : Obj} {g1 : Nat} (t : Turns (fun _ => False) w0 w) (g : (w.alloc o).grownBy w' (some g1)) (h1 : w0.heap.size ≤ g1) : Turns (fun _ => False) w0 w' :=
  (t.alloc o).next (Turns.grown (S := fun j => j = g1) g (fun j e => by cases e; rfl)) (fun j hj e => by omega)

set_option maxHeartbeats 2000000 in
theorem rput_ok {B : Nat} {w : World} {tb : Nat} {rv : Value} {row : List Du} (id n : Int) (h : TP 59 29 B w tb rv row) (hn : fitP id n) (hf : hasB row id = false) (hl : row.length < 1000) (hB : B ≤ w.heap.size) :
    Calls Try.prog 10 #[.pointer (some ⟨tb, 0, none⟩), .int .i64 id, .int .i64 n] w fun e w' => e = .returned (.int .i64 0) ∧ ∃ rv', Out 59 29 B w w' tb rv rv' (row ++ [⟨id, n⟩]) := by
  obtain ⟨h1, h2, h3, h4⟩ := hn
  have HPS : Hid (Pos (row ++ [⟨id, n⟩])) := h.pos.snoc id n h3 h4
  have e1 : decide (id < 0) = false := decide_eq_false (by omega)
  have e2 : decide (255 < id) = false := decide_eq_false (by omega)
  have e3 : decide (n < 1) = false := decide_eq_false (by omega)
  have e4 : decide (1099511627776 < n) = false := decide_eq_false (by omega)
  have HF : Hid (findL row id = -1) := has_not hf
  clear hf h1 h2 h3 h4
  have hc := h.c0
  have hlt := h.tb_lt
  have hle : row.length + [(⟨id, n⟩ : Du)].length ≤ 100000 := by simp; omega
  have hle1 : row.length ≤ 100000 := by omega
  have n1 := made_dus 59 B w hB
  have s1 : DuSrc w rv row := DuRow.src h.own
  have s2 := s1.turns ((Turns.refl (fun _ => False) w).alloc (.cells #[] 59))
  go_enter Try.func10, Try.ntmps10
  go_wp2_with fail
  refine (rfind_any id h).mono ?_
  rintro e w1 ⟨rfl, hw⟩
  subst w1
  rw [HF.out]
  rcases h.form with ⟨rfl, hnil⟩ | ⟨g0, cap0, rfl, hnil, _⟩
  all_goals
    clear hnil
    go_wp2_with (first | (at_builtin; refine wpList_append_dus kR _ (by rfl) _ _ rfl B (.slice (some ⟨g1, 0, none⟩) row.length c1) _ row [⟨id, n⟩] (by rfl) (by rfl) (owns_turns o1 ((Turns.refl (fun _ => False) _).alloc _) (fun _ _ h => h)) (lit_du 59 w1 ⟨id, n⟩) (.inr (by simp)) hle (le_alloc _ hB1) ?_; intro g2 c2 w2 o2 gr2 at2; have T2 := app_turns T1 gr2 hg1; have hg2 := app_ge (at2.imp (fun x => (by simpa [Value.ownBlock] using x.symm)) (fun x => x)) hg1 T1.size; have R := new_out h T2 hg2 (by simp) o2 HPS.out (by simp; omega); have r1 := R.1; have r2 := R.2.1) | (at_builtin; refine wpList_copy_dus kR _ (by rfl) _ _ rfl B w.heap.size _ row (by rfl) (by rfl) n1 s2 hle1 (le_alloc _ hB) ?_; intro g1 c1 w1 o1 gr1 at1; have T1 := app_turns (Turns.refl _ w) gr1 (Nat.le_refl _); have hg1 := app_ge at1 (Nat.le_refl _) (Nat.le_refl _); have hB1 := Nat.le_trans hB T1.size))
    go_ret
    exact ⟨rfl, _, R.2.2⟩

theorem rput_any {B : Nat} {w : World} {tb : Nat} {rv : Value} {row : List Du} (id n : Int) (h : TP 59 29 B w tb rv row) (hl : row.length < 1000) (hB : B ≤ w.heap.size) :
    Calls Try.prog 10 #[.pointer (some ⟨tb, 0, none⟩), .int .i64 id, .int .i64 n] w fun e w' => e = .returned (.int .i64 (putE row id n)) ∧ ∃ rv', Out 59 29 B w w' tb rv rv' (putR row id n) := by
  rcases put_cases row id n with ⟨h1, h2, h3⟩ | ⟨h1, h2, h3, h4⟩ | ⟨h1, h2, h3, h4⟩
  · rw [h2, h3]
    refine (rput_arg id n h h1).mono ?_
    rintro e w' ⟨rfl, rfl⟩
    exact ⟨rfl, _, Out.same h (Turns.refl _ _)⟩
  · rw [h3, h4]
    refine (rput_twice id n h h1 h2).mono ?_
    rintro e w' ⟨rfl, rfl⟩
    exact ⟨rfl, _, Out.same h (Turns.refl _ _)⟩
  · rw [h3, h4]
    exact rput_ok id n h h1 h2 hl hB
end Go.Proofs.Ytohgjdefgabfeaa
