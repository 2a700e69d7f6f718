/- Put and Set of the reference's heap, by their contracts. -/
import Derived.Test.YthlnbnklhajilaaRefApp
namespace Go.Proofs.Ythlnbnklhajilaa
open Go.RowKit Hp

theorem wpList_copy_ents (w : World) {ops : Array Oper} {rest : List Oper} {o : Oper} {a : Act} {Q : Exit → Act → World → Prop} (hw : Region.wanted o (yielded ops a.tmps) = true) (s x : Operand)
    (ho : o.op = .call { callee := .builtin .append, args := #[s, x], argTypes := #[43, 43] })
    (B g1 : Nat) (v2 : Value) (l2 : List Ent) (hs : a.eval s = .slice (some ⟨g1, 0, none⟩) 0 0) (hx : a.eval x = v2) (h1 : EntRow B w (.slice (some ⟨g1, 0, none⟩) 0 0) []) (h2 : EntSrc w v2 l2) (hl : l2.length ≤ 100000) (hB : B ≤ w.heap.size)
    (h : ∀ g cap w', EntRow B w' (.slice (some ⟨g, 0, none⟩) l2.length cap) l2 → w.grownBy w' (some g1) → (g = g1 ∨ g = w.heap.size) → wpList Try.prog ops Q rest (a.put o.dst (.slice (some ⟨g, 0, none⟩) l2.length cap)) w') :
    wpList Try.prog ops Q (o :: rest) a w := by
  refine wpList_append_ents w hw s x ho B g1 0 0 v2 [] l2 hs hx h1 h2 (by simpa using hl) hB ?_
  intro g cap w' k1 k2 k3
  simp only [List.length_nil, Nat.zero_add, List.nil_append] at k1 ⊢
  exact h g cap w' k1 k2 k3

theorem step_copy_ents (w : World) {ops : Array Oper} {o : Oper} {a : Act} {K : Act → World → Prop} {Q : Exit → Act → World → Prop} {E : Prop} (hgd : o.guard = none) (s x : Operand)
    (ho : o.op = .call { callee := .builtin .append, args := #[s, x], argTypes := #[43, 43] })
    (B g1 : Nat) (v2 : Value) (l2 : List Ent) (hs : a.eval s = .slice (some ⟨g1, 0, none⟩) 0 0) (hx : a.eval x = v2) (h1 : EntRow B w (.slice (some ⟨g1, 0, none⟩) 0 0) []) (h2 : EntSrc w v2 l2) (hl : l2.length ≤ 100000) (hB : B ≤ w.heap.size)
    (h : ∀ g cap w', EntRow B w' (.slice (some ⟨g, 0, none⟩) l2.length cap) l2 → w.grownBy w' (some g1) → (g = g1 ∨ g = w.heap.size) → K (a.put o.dst (.slice (some ⟨g, 0, none⟩) l2.length cap)) w') :
    if Region.wanted o (yielded ops a.tmps) = true then Oper.wp Try.prog o a w K Q else E := by
  refine step_append_ents w hgd s x ho B g1 0 0 v2 [] l2 hs hx h1 h2 (by simpa using hl) hB ?_
  intro g cap w' k1 k2 k3
  simp only [List.length_nil, Nat.zero_add, List.nil_append] at k1 ⊢
  exact h g cap w' k1 k2 k3

theorem le_alloc {B : Nat} {w : World} (o : Obj) (h : B ≤ w.heap.size) : B ≤ (w.alloc o).heap.size := by
  have : (w.alloc o).heap.size = w.heap.size + 1 := by simp
  omega
theorem app_ge {w0 w : World} {o : Obj} {g g1 : Nat} (h : g = g1 ∨ g = (w.alloc o).heap.size) (h1 : w0.heap.size ≤ g1) (h2 : w0.heap.size ≤ w.heap.size) : w0.heap.size ≤ g := by
  have : (w.alloc o).heap.size = w.heap.size + 1 := by simp
  omega
/-- An append behind a block that was just laid: of the old nothing has turned. -/
theorem app_turns {w0 w w' : World} {o : Obj} {g1 : Nat} (t : Turns (fun _ => False) w0 w) (g : (w.alloc o).grownBy w' (some g1)) (h1 : w0.heap.size ≤ g1) : Turns (fun _ => False) w0 w' :=
  (t.alloc o).next (Turns.grown (S := fun j => j = g1) g (fun j e => by cases e; rfl)) (fun j hj e => by omega)

theorem kn_false {most : Nat} {id : Int} (h : knB most id = false) : id < 0 ∨ (0 ≤ id ∧ (most : Int) ≤ id) := by
  by_cases h0 : 0 ≤ id
  · by_cases h1 : id < (most : Int)
    · simp [knB, h0, h1] at h
    · exact .inr ⟨h0, by omega⟩
  · exact .inl (by omega)

set_option maxHeartbeats 1000000 in
theorem rput_arg {B : Nat} {w : World} {mb most : Nat} {lv : Value} {l : List Ent} (id prio seq : Int) (h : RP B w mb lv most l) (hk : knB most id = false) :
    Calls Try.prog 12 #[.pointer (some ⟨mb, 0, none⟩), .int .i64 id, .int .i64 prio, .int .i64 seq] w fun e w' => e = .returned (.int .i64 1) ∧ w' = w := by
  have hc0 := h.c0
  rcases kn_false hk with h0 | ⟨h0, h1⟩
  all_goals
    clear hk
    go_enter Try.func12, Try.ntmps12
    go_wp2_with fail
    go_ret
    exact ⟨rfl, rfl⟩

set_option maxHeartbeats 1000000 in
theorem rput_twice {B : Nat} {w : World} {mb most : Nat} {lv : Value} {l : List Ent} (id prio seq : Int) (h : RP B w mb lv most l) (hk : knB most id = true) (hf : 0 ≤ findL l id) :
    Calls Try.prog 12 #[.pointer (some ⟨mb, 0, none⟩), .int .i64 id, .int .i64 prio, .int .i64 seq] w fun e w' => e = .returned (.int .i64 6) ∧ w' = w := by
  have hc0 := h.c0
  obtain ⟨k1, k2⟩ : 0 ≤ id ∧ id < (most : Int) := by simpa [knB] using hk
  have e1 : decide (id < 0) = false := decide_eq_false (by omega)
  have e2 : decide ((most : Int) ≤ id) = false := decide_eq_false (by omega)
  clear hk
  go_enter Try.func12, Try.ntmps12
  go_wp2_with fail
  refine (rfind_any id h).mono ?_
  rintro e w1 ⟨rfl, rfl⟩
  go_wp2_with fail
  go_ret
  exact ⟨rfl, rfl⟩

set_option maxHeartbeats 2000000 in
theorem rput_ok {B : Nat} {w : World} {mb most : Nat} {lv : Value} {l : List Ent} (id prio seq : Int) (h : RP B w mb lv most l) (hk : knB most id = true) (hf : findL l id = -1) (hB : B ≤ w.heap.size) :
    Calls Try.prog 12 #[.pointer (some ⟨mb, 0, none⟩), .int .i64 id, .int .i64 prio, .int .i64 seq] w fun e w' => e = .returned (.int .i64 0) ∧ ∃ lv',
      RP B w' mb lv' most (l ++ [⟨id, prio, seq⟩]) ∧ Turns (fun k => k = mb) w w' ∧ ∀ k, lv'.ownBlock = some k → w.heap.size ≤ k := by
  have hc0 := h.c0
  have hc1 := h.c1
  have hlen := h.len
  obtain ⟨k1, k2⟩ : 0 ≤ id ∧ id < (most : Int) := by simpa [knB] using hk
  have e1 : decide (id < 0) = false := decide_eq_false (by omega)
  have e2 : decide ((most : Int) ≤ id) = false := decide_eq_false (by omega)
  have HG : Hid (Hp.Good most (l ++ [⟨id, prio, seq⟩])) := by
    refine good_snoc h.good ⟨id, prio, seq⟩ k1 k2 ?_
    rcases findL_cases l id with ⟨_, hn⟩ | ⟨i, _, _, hi, _⟩
    · exact hn
    · rw [hf] at hi; omega
  have HF : Hid (findL l id = -1) := hf
  clear hk hf
  have hmb : mb < w.heap.size := (h.foot mb (.inl rfl)).2
  have hle : l.length + [(⟨id, prio, seq⟩ : Ent)].length ≤ 100000 := by simp; omega
  have n1 := made_ents B w hB
  have s1 : EntSrc w lv l := EntRow.src h.own
  have s2 := s1.turns ((Turns.refl (fun _ => False) w).alloc (.cells #[] 65))
  go_enter Try.func12, Try.ntmps12
  go_wp2_with fail
  refine (rfind_any id h).mono ?_
  rintro e w1 ⟨rfl, hw⟩
  subst w1
  rw [HF.out]
  rcases h.form with ⟨rfl, hnil⟩ | ⟨g0, cap0, rfl, hnil, _⟩
  all_goals
    clear hnil
    go_wp2_with (first | (at_builtin; refine wpList_append_ents _ (by rfl) _ _ rfl B g1 l.length c1 _ l [⟨id, prio, seq⟩] (by rfl) (by rfl) (owns_turns o1 ((Turns.refl (fun _ => False) _).alloc _) (fun _ _ h => h)) (lit_ent w1 ⟨id, prio, seq⟩) hle (le_alloc _ hB1) ?_; intro g2 c2 w2 o2 gr2 at2; have T2 := app_turns T1 gr2 hg1; have hg2 := app_ge at2 hg1 T1.size; have R := rp_store h T2 o2 hg2 HG.out; have r1 := R.1; have r2 := R.2.1) | (at_builtin; refine wpList_copy_ents _ (by rfl) _ _ rfl B w.heap.size _ l (by rfl) (by rfl) n1 s2 (by omega) (le_alloc _ hB) ?_; intro g1 c1 w1 o1 gr1 at1; have T1 := app_turns (Turns.refl _ w) gr1 (Nat.le_refl _); have hg1 := app_ge at1 (Nat.le_refl _) (Nat.le_refl _); have hB1 := Nat.le_trans hB T1.size))
    go_ret
    refine ⟨rfl, _, R.2.2.1, R.2.2.2, ?_⟩
    intro k e
    simp [Value.ownBlock] at e
    omega

set_option maxHeartbeats 1000000 in
theorem rset_arg {B : Nat} {w : World} {mb most : Nat} {lv : Value} {l : List Ent} (id prio : Int) (h : RP B w mb lv most l) (hk : knB most id = false) :
    Calls Try.prog 14 #[.pointer (some ⟨mb, 0, none⟩), .int .i64 id, .int .i64 prio] w fun e w' => e = .returned (.int .i64 1) ∧ w' = w := by
  have hc0 := h.c0
  rcases kn_false hk with h0 | ⟨h0, h1⟩
  all_goals
    clear hk
    go_enter Try.func14, Try.ntmps14
    go_wp2_with fail
    go_ret
    exact ⟨rfl, rfl⟩

set_option maxHeartbeats 1000000 in
theorem rset_none {B : Nat} {w : World} {mb most : Nat} {lv : Value} {l : List Ent} (id prio : Int) (h : RP B w mb lv most l) (hk : knB most id = true) (hf : findL l id = -1) :
    Calls Try.prog 14 #[.pointer (some ⟨mb, 0, none⟩), .int .i64 id, .int .i64 prio] w fun e w' => e = .returned (.int .i64 8) ∧ w' = w := by
  have hc0 := h.c0
  obtain ⟨k1, k2⟩ : 0 ≤ id ∧ id < (most : Int) := by simpa [knB] using hk
  have e1 : decide (id < 0) = false := decide_eq_false (by omega)
  have e2 : decide ((most : Int) ≤ id) = false := decide_eq_false (by omega)
  have HF : Hid (findL l id = -1) := hf
  clear hk hf
  go_enter Try.func14, Try.ntmps14
  go_wp2_with fail
  refine (rfind_any id h).mono ?_
  rintro e w1 ⟨rfl, rfl⟩
  rw [HF.out]
  go_wp2_with fail
  go_ret
  exact ⟨rfl, rfl⟩

theorem rset_row {B : Nat} {w : World} {g c : Nat} {l : List Ent} (h : EntRow B w (.slice (some ⟨g, 0, none⟩) l.length c) l) (k : Nat) (hk : k < l.length) (v : Int) :
    EntRow B (w.setCell ⟨g, k * 3 + 1, none⟩ (.int .i64 v)) (.slice (some ⟨g, 0, none⟩) l.length c) (setPrio l k v) := by
  unfold EntRow
  rw [setPrio_length, ← flat_setPrio l k v hk]
  exact (World.ownsRow.stored h (k * 3 + 1) _).1

set_option maxHeartbeats 2000000 in
theorem rset_ok {B : Nat} {w : World} {mb most : Nat} {lv : Value} {l : List Ent} (id prio : Int) (k : Nat) (h : RP B w mb lv most l) (hk : knB most id = true) (hf : findL l id = (k : Int)) (hkl : k < l.length) (hB : B ≤ w.heap.size) :
    Calls Try.prog 14 #[.pointer (some ⟨mb, 0, none⟩), .int .i64 id, .int .i64 prio] w fun e w' => e = .returned (.int .i64 0) ∧ ∃ lv',
      RP B w' mb lv' most (setPrio l k prio) ∧ Turns (fun k => k = mb) w w' ∧ ∀ k, lv'.ownBlock = some k → w.heap.size ≤ k := by
  have hc0 := h.c0
  have hc1 := h.c1
  have hlen := h.len
  obtain ⟨k1, k2⟩ : 0 ≤ id ∧ id < (most : Int) := by simpa [knB] using hk
  have e1 : decide (id < 0) = false := decide_eq_false (by omega)
  have e2 : decide ((most : Int) ≤ id) = false := decide_eq_false (by omega)
  have HG : Hid (Hp.Good most (setPrio l k prio)) := good_setPrio h.good k prio hkl
  have HF : Hid (findL l id = (k : Int)) := hf
  clear hk hf
  have hmb : mb < w.heap.size := (h.foot mb (.inl rfl)).2
  have n1 := made_ents B w hB
  have s1 : EntSrc w lv l := EntRow.src h.own
  have s2 := s1.turns ((Turns.refl (fun _ => False) w).alloc (.cells #[] 65))
  have b1 : (k : Int) < (l.length : Int) := by omega
  have b2 : (0 : Int) ≤ (k : Int) := by omega
  rcases h.form with ⟨rfl, hnil⟩ | ⟨g0, cap0, rfl, hnil, _⟩
  · rw [hnil] at hkl; simp at hkl
  · clear hnil
    go_enter Try.func14, Try.ntmps14
    go_wp2_with fail
    refine (rfind_any id h).mono ?_
    rintro e w1 ⟨rfl, hw⟩
    subst w1
    rw [HF.out]
    go_wp2_with (at_builtin; refine wpList_copy_ents _ (by rfl) _ _ rfl B w.heap.size _ l (by rfl) (by rfl) n1 s2 (by omega) (le_alloc _ hB) ?_; intro g1 c1 w1 o1 gr1 at1; have T1 := app_turns (Turns.refl _ w) gr1 (Nat.le_refl _); have hg1 := app_ge at1 (Nat.le_refl _) (Nat.le_refl _); have q1 := (rown_get o1 rfl k hkl).2.1; have q2 := World.ownsRow.frozenAt o1 (k * 3 + 1); have hne : mb ≠ g1 := (by omega); have T2 : Turns (fun _ => False) w (w1.setCell ⟨g1, k * 3 + 1, none⟩ (.int .i64 prio)) := T1.next (Turns.setCell (S := fun j => j = g1) (Turns.refl _ w1) rfl _) (fun j hj e => by omega); have R := rp_store h T2 (rset_row o1 k hkl prio) hg1 HG.out; have r0 := T1.cell hc1 hmb (fun x => x); have r2 := (World.ownsRow.frozenAt (owns_turns h.hd T1 (fun _ _ x => x)) 1))
    go_ret
    refine ⟨rfl, _, R.2.2.1, R.2.2.2, ?_⟩
    intro k e
    simp [Value.ownBlock] at e
    omega
end Go.Proofs.Ythlnbnklhajilaa
