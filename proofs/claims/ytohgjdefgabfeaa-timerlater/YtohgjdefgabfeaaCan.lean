/- Cancel and Twin of a timer, by their contracts. -/
import Derived.Test.YtohgjdefgabfeaaDel
namespace Go.Proofs.Ytohgjdefgabfeaa
open Go.RowKit Tm

/-- What Cancel answers, and the row then. -/
def canE (row : List Du) (id : Int) : Int := if hasB row id = true then 0 else 8
def canR (row : List Du) (id : Int) : List Du := if hasB row id = true then row.eraseIdx (findL row id).toNat else row
theorem can_cases (row : List Du) (id : Int) : (findL row id = -1 ∧ canE row id = 8 ∧ canR row id = row) ∨ (∃ k : Nat, findL row id = (k : Int) ∧ k < row.length ∧ canE row id = 0 ∧ canR row id = row.eraseIdx k) := by
  unfold canE canR
  rcases findL_cases row id with ⟨hf, _⟩ | ⟨k, hk, _, hf, _⟩
  · left; rw [(plc_none hf).2]; exact ⟨hf, by simp, by simp⟩
  · right; rw [(plc_some hf).2, hf]; exact ⟨k, rfl, hk, by simp, by simp⟩

set_option maxHeartbeats 1000000 in
theorem can_none {B : Nat} {w : World} {tb : Nat} {rv : Value} {row : List Du} (id : Int) (h : TP 57 53 B w tb rv row) (hf : findL row id = -1) :
    Calls Try.prog 11 #[.pointer (some ⟨tb, 0, none⟩), .int .i64 id] w fun e w' => e = .returned (.int .i64 8) ∧ Turns (fun _ => False) w w' := by
  have HF : Hid (hasB row id = false) := (plc_none hf).2
  clear hf
  go_enter Try.func11, Try.ntmps11
  go_wp2_with fail
  refine (find_any id h).mono ?_
  rintro e w1 ⟨rfl, t1⟩
  rw [HF.out]
  go_wp2_with fail
  go_ret
  exact ⟨rfl, t1⟩

/-- Behind Delete, and the store of what it answers. -/
theorem del_out {B : Nat} {w w1 w2 : World} {tb g cap : Nat} {row : List Du} (k : Nat) (h : TP 57 53 B w tb (.slice (some ⟨g, 0, none⟩) row.length cap) row) (hk : k < row.length) (t1 : Turns (fun _ => False) w w1)
    (o2 : w2.ownsRow B 57 2 (.slice (some ⟨g, 0, none⟩) (row.length - 1) cap) (row.length - 1) (flat (row.eraseIdx k))) (t2 : Turns (fun j => j = g) w1 w2) :
    w2.cell? ⟨tb, 0, none⟩ = some (.slice (some ⟨g, 0, none⟩) row.length cap) ∧ (∀ j, w2.frozen? ⟨tb, j, none⟩ = false) ∧ Out 57 53 B w (w2.setCell ⟨tb, 0, none⟩ (.slice (some ⟨g, 0, none⟩) (row.length - 1) cap)) tb (.slice (some ⟨g, 0, none⟩) row.length cap) (.slice (some ⟨g, 0, none⟩) (row.length - 1) cap) (row.eraseIdx k) := by
  have hlen := h.len
  have hl : (row.eraseIdx k).length = row.length - 1 := by rw [List.length_eraseIdx]; simp [hk]
  have T : Turns (fun j => j = g) w w2 := (t1.mono (fun _ _ x => x.elim)).trans t2
  rw [← hl] at o2
  have hd : ¬ tb = g := fun e => h.d (by rw [e]; rfl)
  obtain ⟨r1, r2, r3, r4⟩ := tp_store h T hd o2 (by simp [Value.ownBlock]; exact fun e => hd e.symm) (h.pos.erase k) (by omega)
  rw [hl] at r3 r4
  exact ⟨r1, r2, r3, r4.mono (fun j _ e => by rcases e with e | e; exact .inl e; exact .inr (by simp [Value.ownBlock, e])), fun j e => .inl e⟩

set_option maxHeartbeats 1000000 in
theorem can_ok {B : Nat} {w : World} {tb : Nat} {rv : Value} {row : List Du} (id : Int) (k : Nat) (h : TP 57 53 B w tb rv row) (hf : findL row id = (k : Int)) (hk : k < row.length) :
    Calls Try.prog 11 #[.pointer (some ⟨tb, 0, none⟩), .int .i64 id] w fun e w' => e = .returned (.int .i64 0) ∧ ∃ rv', Out 57 53 B w w' tb rv rv' (row.eraseIdx k) := by
  have HF : Hid (plc row id = (k : Int) ∧ hasB row id = true) := plc_some hf
  clear hf
  have hlen := h.len
  rcases h.form with ⟨rfl, rfl⟩ | ⟨g, cap, rfl, hcap, hne⟩
  · simp at hk
  · go_enter Try.func11, Try.ntmps11
    go_wp2_with fail
    refine (find_any id h).mono ?_
    rintro e w1 ⟨rfl, t1⟩
    rw [HF.out.1, HF.out.2]
    have h1 := h.keep t1
    have hc := h1.c0
    have b1 : (k : Int) < (row.length : Int) := by omega
    have b2 : (0 : Int) ≤ (k : Int) := by omega
    have b6 : IntKind.i64.wrap ((k : Int) + 1) = (k : Int) + 1 := by rw [IntKind.wrap_i64]; omega
    go_wp2_with fail
    refine (delete_any k h1.own hk hlen).mono ?_
    rintro e w2 ⟨rfl, o2, t2⟩
    have R := del_out k h hk t1 o2 t2
    have r1 := R.1
    have r2 := R.2.1
    go_wp2_with fail
    go_ret
    exact ⟨rfl, _, R.2.2⟩

theorem can_any {B : Nat} {w : World} {tb : Nat} {rv : Value} {row : List Du} (id : Int) (h : TP 57 53 B w tb rv row) :
    Calls Try.prog 11 #[.pointer (some ⟨tb, 0, none⟩), .int .i64 id] w fun e w' => e = .returned (.int .i64 (canE row id)) ∧ ∃ rv', Out 57 53 B w w' tb rv rv' (canR row id) := by
  rcases can_cases row id with ⟨h1, h2, h3⟩ | ⟨k, h1, h2, h3, h4⟩
  · rw [h2, h3]
    refine (can_none id h h1).mono ?_
    rintro e w' ⟨rfl, t⟩
    exact ⟨rfl, _, Out.same h t⟩
  · rw [h3, h4]
    exact can_ok id k h h1 h2

set_option maxHeartbeats 400000 in
theorem clone_nil (w : World) : Calls Try.prog 23 #[.slice none 0 0] w fun e w' => e = .returned (.slice none 0 0) ∧ w' = w := by
  have he : (binOp .eql 51 (.slice none 0 0) (.slice none 0 0)).run Try.prog w = .ok (.bool true) w := by
    simpa using Lib.run_eql_slice_nil (P := Try.prog) w 51 57 none 0 0 0 0 Try.underlying51
  go_enter Try.func23, Try.ntmps23
  go_wp2
  go_ret
  exact ⟨rfl, rfl⟩

set_option maxHeartbeats 400000 in
theorem clone_some {B g cap : Nat} {row : List Du} {w : World} (h : DuRow 57 B w (.slice (some ⟨g, 0, none⟩) row.length cap) row) (hn : row.length ≤ 1000) (hB : B ≤ w.heap.size) :
    Calls Try.prog 23 #[.slice (some ⟨g, 0, none⟩) row.length cap] w fun e w' => ∃ g' cap', e = .returned (.slice (some ⟨g', 0, none⟩) row.length cap') ∧ DuRow 57 B w' (.slice (some ⟨g', 0, none⟩) row.length cap') row ∧ w.heap.size ≤ g' ∧ Turns (fun _ => False) w w' := by
  have he : (binOp .eql 51 (.slice (some ⟨g, 0, none⟩) row.length cap) (.slice none 0 0)).run Try.prog w = .ok (.bool false) w := by
    simpa using Lib.run_eql_slice_nil (P := Try.prog) w 51 57 (some ⟨g, 0, none⟩) row.length cap 0 0 Try.underlying51
  have n1 := made_dus 57 B w hB
  have s2 := h.src.turns ((Turns.refl (fun _ => False) w).alloc (.cells #[] 57))
  go_enter Try.func23, Try.ntmps23
  go_wp2_with (at_builtin; refine wpList_copy_dus kT _ (by rfl) _ _ rfl B w.heap.size _ row (by rfl) (by rfl) n1 s2 (by omega) (le_alloc _ hB) ?_; intro g1 c1 w1 o1 gr1 at1; have T1 := app_turns (Turns.refl _ w) gr1 (Nat.le_refl _); have hg1 := app_ge at1 (Nat.le_refl _) (Nat.le_refl _))
  go_ret
  exact ⟨g1, c1, rfl, o1, hg1, T1⟩

/-- A twin: new blocks alone. -/
structure TwinOut (e s : TypeId) (B : Nat) (w w' : World) (tb : Nat) (rv : Value) (row : List Du) : Prop where
  tp : TP e s B w' tb rv row
  lo : ∀ k, Foot tb rv k → w.heap.size ≤ k
  tu : Turns (fun _ => False) w w'
theorem twin_out {e s : TypeId} {B : Nat} {w w2 : World} {rv : Value} {row : List Du} (hp : Pos row) (hl : row.length ≤ 1000) (hB : B ≤ w.heap.size)
    (o1 : w2.ownsRow B e 2 rv row.length (flat row)) (l1 : ∀ k, rv.ownBlock = some k → w.heap.size ≤ k) (t : Turns (fun _ => False) w w2) :
    TwinOut e s B w (w2.alloc (.cells #[rv] s)) w2.heap.size rv row := by
  have k1 := o1.lt
  have hs := t.size
  refine ⟨⟨o1.alloc _, World.ownsRow_lit w2 _ 1 (by omega) (by unfold maxLen; omega) rfl, ?_, hp, hl⟩, ?_, t.alloc _⟩
  · intro e; have := (k1 _ e).2; omega
  · intro k hk
    rcases hk with rfl | hk
    · exact hs
    · exact l1 k hk

set_option maxHeartbeats 1000000 in
theorem twin_any {B : Nat} {w : World} {tb : Nat} {rv : Value} {row : List Du} (h : TP 57 53 B w tb rv row) (hB : B ≤ w.heap.size) :
    Calls Try.prog 16 #[.pointer (some ⟨tb, 0, none⟩)] w fun e w' => ∃ tb', e = .returned (.pointer (some ⟨tb', 0, none⟩)) ∧ ∃ rv', TwinOut 57 53 B w w' tb' rv' row := by
  have hc := h.c0
  have hlen := h.len
  rcases h.form with ⟨rfl, rfl⟩ | ⟨g, cap, rfl, hcap, hne⟩
  · go_enter Try.func16, Try.ntmps16
    go_wp2_with fail
    refine (clone_nil w).mono ?_
    rintro e w1 ⟨rfl, hw⟩
    subst w1
    go_wp2_with fail
    go_ret
    exact ⟨w.heap.size, rfl, _, twin_out h.pos h.len hB h.own (fun k e => by simp [Value.ownBlock] at e) (Turns.refl _ _)⟩
  · go_enter Try.func16, Try.ntmps16
    go_wp2_with fail
    refine (clone_some h.own hlen hB).mono ?_
    rintro e w1 ⟨g1, c1, rfl, o1, hg1, T1⟩
    go_wp2_with fail
    go_ret
    exact ⟨w1.heap.size, rfl, _, twin_out h.pos h.len hB o1 (fun k e => by simp [Value.ownBlock] at e; omega) T1⟩
end Go.Proofs.Ytohgjdefgabfeaa
