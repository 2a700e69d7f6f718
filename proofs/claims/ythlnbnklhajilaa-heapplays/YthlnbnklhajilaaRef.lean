/- The reference's heap: how it lies in memory; ahead, find, Has and NewHeap by their contracts. -/
import Derived.Test.YthlnbnklhajilaaAppd
namespace Go.Proofs.Ythlnbnklhajilaa
open Go.RowKit Hp

/-- A heap of the reference in memory: the entries in a row, as they came. -/
structure RP (B : Nat) (w : World) (mb : Nat) (lv : Value) (most : Nat) (l : List Ent) : Prop where
  own : w.ownsRow B 65 3 lv l.length (flat l)
  hd : w.ownsRow B 45 2 (.slice (some ⟨mb, 0, none⟩) 1 1) 1 [.int .i64 most, lv]
  d : lv.ownBlock ≠ some mb
  good : Hp.Good most l
  top : most ≤ 256

def FootR (mb : Nat) (lv : Value) (k : Nat) : Prop := k = mb ∨ lv.ownBlock = some k

theorem RP.len {B : Nat} {w : World} {mb : Nat} {lv : Value} {most : Nat} {l : List Ent} (h : RP B w mb lv most l) : l.length ≤ 256 := Nat.le_trans (good_len h.good) h.top
theorem RP.turns {B : Nat} {w w' : World} {mb : Nat} {lv : Value} {most : Nat} {l : List Ent} {S : Nat → Prop} (h : RP B w mb lv most l) (t : Turns S w w') (hS : ∀ k, S k → ¬ FootR mb lv k) : RP B w' mb lv most l :=
  ⟨owns_turns h.own t (fun k hk hs => hS k hs (.inr hk)), owns_turns h.hd t (fun k hk hs => hS k hs (.inl (by simpa [Value.ownBlock] using hk.symm))), h.d, h.good, h.top⟩
theorem RP.foot {B : Nat} {w : World} {mb : Nat} {lv : Value} {most : Nat} {l : List Ent} (h : RP B w mb lv most l) : ∀ k, FootR mb lv k → B ≤ k ∧ k < w.heap.size := by
  intro k hk
  rcases hk with rfl | hk
  · exact h.hd.lt _ rfl
  · exact h.own.lt _ hk
theorem RP.c0 {B : Nat} {w : World} {mb : Nat} {lv : Value} {most : Nat} {l : List Ent} (h : RP B w mb lv most l) : w.cell? ⟨mb, 0, none⟩ = some (.int .i64 most) := by
  rw [h.hd.cellAt 0 (by omega)]; rfl
theorem RP.c1 {B : Nat} {w : World} {mb : Nat} {lv : Value} {most : Nat} {l : List Ent} (h : RP B w mb lv most l) : w.cell? ⟨mb, 1, none⟩ = some lv := by
  rw [h.hd.cellAt 1 (by omega)]; rfl
theorem RP.f0 {B : Nat} {w : World} {mb : Nat} {lv : Value} {most : Nat} {l : List Ent} (h : RP B w mb lv most l) (j : Nat) : w.frozen? ⟨mb, j, none⟩ = false := h.hd.frozenAt j
theorem RP.form {B : Nat} {w : World} {mb : Nat} {lv : Value} {most : Nat} {l : List Ent} (h : RP B w mb lv most l) : (lv = .slice none 0 0 ∧ l = []) ∨ ∃ g cap, lv = .slice (some ⟨g, 0, none⟩) l.length cap ∧ l.length ≤ cap ∧ mb ≠ g := by
  rcases h.own.2 with ⟨h1, h2⟩ | ⟨g, cap, cur, h1, _, _, h3, _⟩
  · exact .inl ⟨h1, by simpa using h2⟩
  · refine .inr ⟨g, cap, h1, h3, ?_⟩
    intro e; apply h.d; rw [h1, e]; rfl
theorem RP.frame {B : Nat} {w0 w w' : World} {mb : Nat} {lv : Value} {most : Nat} {l : List Ent} (h : RP B w mb lv most l) (hB : w0.heap.size ≤ B) (T : Turns (fun _ => False) w0 w) (t : Turns (FootR mb lv) w w') : Turns (fun _ => False) w0 w' :=
  T.next t (fun k hk hf => by have := (h.foot k hf).1; omega)
theorem RP.drewN {B : Nat} {w : World} {mb : Nat} {lv : Value} {most : Nat} {l : List Ent} (h : RP B w mb lv most l) (q : Nat) : RP B (w.drewN q) mb lv most l := ⟨h.own, h.hd, h.d, h.good, h.top⟩
theorem RP.drew {B : Nat} {w : World} {mb : Nat} {lv : Value} {most : Nat} {l : List Ent} (h : RP B w mb lv most l) : RP B w.drew mb lv most l := ⟨h.own, h.hd, h.d, h.good, h.top⟩

theorem rown_get {B : Nat} {w : World} {g n cap : Nat} {row : List Ent} (h : w.ownsRow B 65 3 (.slice (some ⟨g, 0, none⟩) n cap) n (flat row)) (hn : n = row.length) (i : Nat) (hi : i < row.length) :
    w.cell? ⟨g, i * 3, none⟩ = some (.int .i64 (at' row i).id) ∧ w.cell? ⟨g, i * 3 + 1, none⟩ = some (.int .i64 (at' row i).prio) ∧ w.cell? ⟨g, i * 3 + 2, none⟩ = some (.int .i64 (at' row i).seq) := by
  subst hn
  refine ⟨?_, ?_, ?_⟩
  · rw [h.cellAt (i * 3) (by omega)]; exact flat_get' row i 0 hi (by omega)
  · rw [h.cellAt (i * 3 + 1) (by omega)]; exact flat_get' row i 1 hi (by omega)
  · rw [h.cellAt (i * 3 + 2) (by omega)]; exact flat_get' row i 2 hi (by omega)

set_option maxHeartbeats 400000 in
theorem rahead_any (x1 x2 x3 y1 y2 y3 : Int) (w : World) :
    Calls Try.prog 34 #[.agg #[.int .i64 x1, .int .i64 x2, .int .i64 x3], .agg #[.int .i64 y1, .int .i64 y2, .int .i64 y3]] w fun e w' => e = .returned (.bool (ahB x1 x2 x3 y1 y2 y3)) ∧
      w' = (w.alloc (.cells #[.int .i64 x1, .int .i64 x2, .int .i64 x3] 65)).alloc (.cells #[.int .i64 y1, .int .i64 y2, .int .i64 y3] 65) := by
  by_cases h2 : x2 = y2
  · subst h2
    by_cases h3 : x3 = y3
    · subst h3
      have g2 : (x2 != x2) = false := by simp
      have g3 : (x3 != x3) = false := by simp
      have hA : ahB x1 x2 x3 y1 x2 x3 = decide (x1 < y1) := by simp [ahB]
      rw [hA]
      clear hA
      go_enter Try.func34, Try.ntmps34
      go_wp2
      go_ret
      exact ⟨rfl, rfl⟩
    · have g2 : (x2 != x2) = false := by simp
      have g3 : (x3 != y3) = true := by simpa using h3
      have hA : ahB x1 x2 x3 y1 x2 y3 = decide (x3 < y3) := by simp [ahB, h3]
      rw [hA]
      clear hA h3
      go_enter Try.func34, Try.ntmps34
      go_wp2
      go_ret
      exact ⟨rfl, rfl⟩
  · have g2 : (x2 != y2) = true := by simpa using h2
    have hA : ahB x1 x2 x3 y1 y2 y3 = decide (y2 < x2) := by simp [ahB, h2]
    rw [hA]
    clear hA h2
    go_enter Try.func34, Try.ntmps34
    go_wp2
    go_ret
    exact ⟨rfl, rfl⟩

/-- The place of an id; -1: none. -/
def findL (l : List Ent) (id : Int) : Int := match l.findIdx? (fun x => x.id == id) with
  | some i => (i : Int)
  | none => -1

theorem findL_cases (l : List Ent) (id : Int) : (findL l id = -1 ∧ ∀ i, i < l.length → (at' l i).id ≠ id) ∨ (∃ i : Nat, i < l.length ∧ (at' l i).id = id ∧ findL l id = (i : Int) ∧ ∀ j, j < i → (at' l j).id ≠ id) := by
  cases h : l.findIdx? (fun x => x.id == id) with
  | none =>
    left
    refine ⟨by unfold findL; rw [h], ?_⟩
    intro i hi
    rw [List.findIdx?_eq_none_iff] at h
    have := h (l[i]) (List.getElem_mem hi)
    rw [Hp.get_at l i hi] at this
    simpa using this
  | some i =>
    right
    have h' := h
    rw [List.findIdx?_eq_some_iff_getElem] at h
    obtain ⟨hi, h1, h2⟩ := h
    refine ⟨i, hi, by rw [Hp.get_at l i hi] at h1; simpa using h1, by unfold findL; rw [h'], ?_⟩
    intro j hj
    have := h2 j hj
    rw [Hp.get_at l j (by omega)] at this
    simpa using this

set_option maxHeartbeats 1000000 in
theorem rfind_any {B : Nat} {w : World} {mb most : Nat} {lv : Value} {l : List Ent} (id : Int) (h : RP B w mb lv most l) :
    Calls Try.prog 28 #[.pointer (some ⟨mb, 0, none⟩), .int .i64 id] w fun e w' => e = .returned (.int .i64 (findL l id)) ∧ w' = w := by
  have hlen := h.len
  have hc1 := h.c1
  rcases h.form with ⟨rfl, rfl⟩ | ⟨g, cap, rfl, hcap, _⟩
  · go_enter Try.func28, Try.ntmps28
    go_wp2
    go_loopw [5] (fun i wr => i = .int .i64 0 ∧ wr = w) (fun _ _ => 0)
    case atStart => exact ⟨rfl, rfl⟩
    case round =>
      obtain ⟨rfl, rfl⟩ := hrel
      go_wp2
      go_ret
      exact ⟨rfl, rfl⟩
  · have HC : Hid ((findL l id = -1 ∧ ∀ i, i < l.length → (at' l i).id ≠ id) ∨ (∃ i : Nat, i < l.length ∧ (at' l i).id = id ∧ findL l id = (i : Int) ∧ ∀ j, j < i → (at' l j).id ≠ id)) := findL_cases l id
    have hown := h.own
    go_enter Try.func28, Try.ntmps28
    go_wp2
    go_loopw [5] (fun i wr => ∃ c : Nat, i = .int .i64 c ∧ c ≤ l.length ∧ Hid (∀ j, j < c → (at' l j).id ≠ id) ∧ wr = w) (fun i _ => l.length - (intOf i).toNat)
    case atStart => exact ⟨0, rfl, by omega, (fun j hj => by omega), rfl⟩
    case round =>
      obtain ⟨c, rfl, hc, HN, rfl⟩ := hrel
      by_cases hcl : c < l.length
      · have gx := (rown_get hown rfl c hcl).1
        obtain ⟨x, hx⟩ : ∃ x, (at' l c).id = x := ⟨_, rfl⟩
        rw [hx] at gx
        have HX : Hid ((at' l c).id = x) := hx
        clear hx
        have b1 : (c : Int) < (l.length : Int) := by omega
        have b2 : (0 : Int) ≤ (c : Int) := by omega
        by_cases hxi : x = id
        · have q : (x == id) = true := by simp [hxi]
          have HXI : Hid (x = id) := hxi
          clear hxi
          have hf : findL l id = (c : Int) := by
            rcases HC.out with ⟨_, hn⟩ | ⟨i, hi, he, hf, hn⟩
            · exact absurd (by rw [HX.out, HXI.out]) (hn c hcl)
            · have : i = c := by
                rcases Nat.lt_trichotomy i c with h1 | h1 | h1
                · exact absurd he (HN.out i h1)
                · exact h1
                · exact absurd (by rw [HX.out, HXI.out]) (hn c h1)
              rw [hf, this]
          have HF : Hid (findL l id = (c : Int)) := hf
          clear hf
          go_wp2
          go_ret
          rw [HF.out]
          exact ⟨rfl, rfl⟩
        · have q : (x == id) = false := by simp [hxi]
          have HXI : Hid (¬ x = id) := hxi
          clear hxi
          go_wp2
          go_roundw
          case rel =>
            refine ⟨c + 1, by go_num, by omega, ?_, by first | rfl | trivial⟩
            intro j hj
            by_cases hjc : j = c
            · rw [hjc, HX.out]; exact HXI.out
            · exact HN.out j (by omega)
          case measure => simp [intOf]; omega
      · have hf : findL l id = -1 := by
          rcases HC.out with ⟨hf, _⟩ | ⟨i, hi, he, hf, hn⟩
          · exact hf
          · exact absurd he (HN.out i (by omega))
        have HF : Hid (findL l id = -1) := hf
        clear hf
        have b1 : ¬ (c : Int) < (l.length : Int) := by omega
        go_wp2
        go_ret
        rw [HF.out]
        exact ⟨rfl, rfl⟩

set_option maxHeartbeats 1000000 in
theorem rhas_any {B : Nat} {w : World} {mb most : Nat} {lv : Value} {l : List Ent} (id : Int) (h : RP B w mb lv most l) :
    Calls Try.prog 22 #[.pointer (some ⟨mb, 0, none⟩), .int .i64 id] w fun e w' => e = .returned (.bool (decide (0 ≤ findL l id))) ∧ w' = w := by
  go_enter Try.func22, Try.ntmps22
  go_wp2_with fail
  refine (rfind_any id h).mono ?_
  rintro e w1 ⟨rfl, rfl⟩
  go_wp2_with fail
  go_ret
  exact ⟨rfl, rfl⟩

set_option maxHeartbeats 1000000 in
theorem rnew_bad (n : Int) (w : World) (h : n < 1 ∨ 256 < n) :
    Calls Try.prog 10 #[.int .i64 n] w fun e w' => e = .returned (.tuple #[.pointer none, .int .i64 1]) ∧ w' = w := by
  rcases h with h | h
  · go_enter Try.func10, Try.ntmps10
    go_wp2_with fail
    go_ret2
    exact ⟨rfl, rfl⟩
  · have h' : ¬ n < 1 := by omega
    go_enter Try.func10, Try.ntmps10
    go_wp2_with fail
    go_ret2
    exact ⟨rfl, rfl⟩

set_option maxHeartbeats 1000000 in
theorem rnew_good (B : Nat) (n : Nat) (w : World) (h1 : 1 ≤ n) (h2 : n ≤ 256) (hB : B ≤ w.heap.size) :
    Calls Try.prog 10 #[.int .i64 n] w fun e w' => ∃ mb, e = .returned (.tuple #[.pointer (some ⟨mb, 0, none⟩), .int .i64 0]) ∧
      RP B w' mb (.slice none 0 0) n [] ∧ Turns (fun _ => False) w w' ∧ w.heap.size ≤ mb := by
  have g1 : ¬ (n : Int) < 1 := by omega
  have g2 : ¬ 256 < (n : Int) := by omega
  go_enter Try.func10, Try.ntmps10
  go_wp2_with fail
  go_ret2
  refine ⟨w.heap.size, rfl, ⟨World.ownsRow_nil _ _ _ _, ?_, by simp [Value.ownBlock], good_nil n, h2⟩, (Turns.refl _ _).alloc _, Nat.le_refl _⟩
  exact World.ownsRow_lit w #[.int .i64 n, .slice none 0 0] 1 hB (by unfold maxLen; omega) rfl
end Go.Proofs.Ythlnbnklhajilaa
