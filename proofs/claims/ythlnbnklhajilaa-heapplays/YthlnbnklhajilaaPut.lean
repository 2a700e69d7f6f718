/- Put of a heap, by its contract. -/
import Derived.Test.YthlnbnklhajilaaAsk
import Derived.Test.YthlnbnklhajilaaChg
import Derived.Deep.AppendLies
namespace Go.Proofs.Ythlnbnklhajilaa
open Go.RowKit Hp

set_option maxHeartbeats 1000000 in
theorem put_arg {B : Nat} {w : World} {hb ab ac most : Nat} {rv : Value} {row : List Ent} (id prio seq : Int) (h : HP B w hb rv ab ac most row) (hk : knB most id = false) :
    Calls Try.prog 11 #[.pointer (some ⟨hb, 0, none⟩), .int .i64 id, .int .i64 prio, .int .i64 seq] w fun e w' => e = .returned (.int .i64 1) ∧ w' = w := by
  have hc1 := h.c1
  go_enter Try.func11, Try.ntmps11
  go_wp2_with fail
  refine (known_any hb ab ac most id _ hc1).mono ?_
  rintro e w1 ⟨rfl, rfl⟩
  rw [hk]
  clear hk
  go_wp2_with fail
  go_ret
  exact ⟨rfl, rfl⟩

set_option maxHeartbeats 1000000 in
theorem put_twice {B : Nat} {w : World} {hb ab ac most : Nat} {rv : Value} {row : List Ent} (id prio seq : Int) (h : HP B w hb rv ab ac most row) (hk : knB most id = true) (hp : place row id.toNat ≠ 0) :
    Calls Try.prog 11 #[.pointer (some ⟨hb, 0, none⟩), .int .i64 id, .int .i64 prio, .int .i64 seq] w fun e w' => e = .returned (.int .i64 6) ∧ w' = w := by
  have hc1 := h.c1
  have hh : hasB most row id = true := by simp [hasB, hp, hk]
  clear hp
  go_enter Try.func11, Try.ntmps11
  go_wp2_with fail
  refine (known_any hb ab ac most id _ hc1).mono ?_
  rintro e w1 ⟨rfl, rfl⟩
  rw [hk]
  clear hk
  go_wp2_with fail
  refine (has_any id h).mono ?_
  rintro e w1 ⟨rfl, rfl⟩
  rw [hh]
  clear hh
  go_wp2_with fail
  go_ret
  exact ⟨rfl, rfl⟩

theorem flat_snoc (row : List Ent) (e : Ent) : flat (row ++ [e]) = flat row ++ entV e := by simp [flat]

theorem entV_one (e : Ent) : ∀ u ∈ entV e, u.oneCell' = true := by
  intro u hu
  simp [entV] at hu
  rcases hu with rfl | rfl | rfl <;> rfl

theorem Turns.cell {S : Nat → Prop} {w w' : World} (t : Turns S w w') {p : Addr} {v : Value} (h : w.cell? p = some v) (hlt : p.block < w.heap.size) (hn : ¬ S p.block) : w'.cell? p = some v := by
  rw [World.cell?_of_block (w := w) (t.block p.block hlt hn)]; exact h

theorem HP.hb_lt {B : Nat} {w : World} {hb : Nat} {rv : Value} {ab ac most : Nat} {row : List Ent} (h : HP B w hb rv ab ac most row) : hb < w.heap.size := (h.foot hb (.inl rfl)).2
theorem HP.ab_lt {B : Nat} {w : World} {hb : Nat} {rv : Value} {ab ac most : Nat} {row : List Ent} (h : HP B w hb rv ab ac most row) : ab < w.heap.size := (h.foot ab (.inr (.inl rfl))).2

/-- What the walk of Put needs, and what comes of it. -/
structure PutOut (B : Nat) (w w1 : World) (hb g cap ab ac most : Nat) (rv : Value) (row : List Ent) (e : Ent) : Prop where
  c0 : w1.cell? ⟨hb, 0, none⟩ = some rv
  f0 : ∀ j, w1.frozen? ⟨hb, j, none⟩ = false
  d1 : hb ≠ g
  d2 : ab ≠ g
  c1 : (w1.setCell ⟨hb, 0, none⟩ (.slice (some ⟨g, 0, none⟩) (row.length + 1) cap)).cell? ⟨hb, 0, none⟩ = some (.slice (some ⟨g, 0, none⟩) (row.length + 1) cap)
  c2 : (w1.setCell ⟨hb, 0, none⟩ (.slice (some ⟨g, 0, none⟩) (row.length + 1) cap)).cell? ⟨hb, 1, none⟩ = some (.slice (some ⟨ab, 0, none⟩) most ac)
  c3 : ∃ u, (w1.setCell ⟨hb, 0, none⟩ (.slice (some ⟨g, 0, none⟩) (row.length + 1) cap)).cell? ⟨ab, e.id.toNat, none⟩ = some u
  f3 : ∀ j, (w1.setCell ⟨hb, 0, none⟩ (.slice (some ⟨g, 0, none⟩) (row.length + 1) cap)).frozen? ⟨ab, j, none⟩ = false
  hp : HP B ((w1.setCell ⟨hb, 0, none⟩ (.slice (some ⟨g, 0, none⟩) (row.length + 1) cap)).setCell ⟨ab, e.id.toNat, none⟩ (.int .i64 ((row.length : Int) + 1))) hb (.slice (some ⟨g, 0, none⟩) (row.length + 1) cap) ab ac most (row ++ [e])
  tu : Turns (Foot hb rv ab) w ((w1.setCell ⟨hb, 0, none⟩ (.slice (some ⟨g, 0, none⟩) (row.length + 1) cap)).setCell ⟨ab, e.id.toNat, none⟩ (.int .i64 ((row.length : Int) + 1)))

theorem put_parts {B : Nat} {w w1 : World} {hb g cap ab ac most : Nat} {rv : Value} {row : List Ent} {e : Ent} (h : HP B w hb rv ab ac most row) (h0 : 0 ≤ e.id) (h1 : e.id < (most : Int)) (hn : ∀ i, i < row.length → (at' row i).id ≠ e.id)
    (hown : w1.ownsRow B 62 3 (.slice (some ⟨g, 0, none⟩) (row.length + 1) cap) (row.length + 1) (flat row ++ entV e)) (t : Turns (fun k => rv.ownBlock = some k) w w1) (hg : rv.ownBlock = some g ∨ w.heap.size ≤ g) :
    PutOut B w w1 hb g cap ab ac most rv row e := by
  have hhb := h.hb_lt
  have hab := h.ab_lt
  have d1 : hb ≠ g := by
    intro x
    rcases hg with hg | hg
    · exact h.d2 (by rw [hg, x])
    · omega
  have d2 : ab ≠ g := by
    intro x
    rcases hg with hg | hg
    · exact h.d3 (by rw [hg, x])
    · omega
  have o2 := owns_turns h.hd t (fun k hk e => h.d2 (by simp [Value.ownBlock] at hk; rw [hk]; exact e))
  have o3 := owns_turns h.ats t (fun k hk e => h.d3 (by simp [Value.ownBlock] at hk; rw [hk]; exact e))
  have s2 := (o2.stored 0 (.slice (some ⟨g, 0, none⟩) (row.length + 1) cap)).1
  have t2 : Turns (fun k => k = hb) w1 (w1.setCell ⟨hb, 0, none⟩ (.slice (some ⟨g, 0, none⟩) (row.length + 1) cap)) := Turns.setCell (S := fun k => k = hb) (Turns.refl _ _) rfl _
  have s3 := owns_turns o3 t2 (fun k hk e => h.d1 (by simp [Value.ownBlock] at hk; omega))
  have s1 := owns_turns hown t2 (fun k hk e => d1 (by simp [Value.ownBlock] at hk; omega))
  have t3 : Turns (fun k => k = ab) (w1.setCell ⟨hb, 0, none⟩ (.slice (some ⟨g, 0, none⟩) (row.length + 1) cap)) ((w1.setCell ⟨hb, 0, none⟩ (.slice (some ⟨g, 0, none⟩) (row.length + 1) cap)).setCell ⟨ab, e.id.toNat, none⟩ (.int .i64 ((row.length : Int) + 1))) := Turns.setCell (S := fun k => k = ab) (Turns.refl _ _) rfl _
  have gg := good_snoc h.good e h0 h1 hn
  refine ⟨by rw [o2.cellAt 0 (by omega)]; rfl, o2.frozenAt, d1, d2, by rw [s2.cellAt 0 (by omega)]; rfl, by rw [s2.cellAt 1 (by omega)]; rfl, ?_, s3.frozenAt, ?_, ?_⟩
  · rw [s3.cellAt e.id.toNat (by omega), List.getElem?_map, atOf_get _ _ _ (by omega)]
    exact ⟨_, rfl⟩
  · refine ⟨?_, ?_, ?_, h.d1, ?_, ?_, gg, h.top, ?_⟩
    · rw [flat_snoc, List.length_append]
      exact owns_turns s1 t3 (fun k hk e => d2 (by simp [Value.ownBlock] at hk; omega))
    · rw [atOf_snoc h.good e h0 h1 hn, List.map_set]
      exact (s3.stored e.id.toNat _).1
    · exact owns_turns s2 t3 (fun k hk e => h.d1 (by simp [Value.ownBlock] at hk; omega))
    · intro x; exact d1 (by simp [Value.ownBlock] at x; omega)
    · intro x; exact d2 (by simp [Value.ownBlock] at x; omega)
    · have := good_len gg; have := h.top; omega
  · refine ((t.mono ?_).trans (t2.mono ?_)).trans (t3.mono ?_)
    · intro k _ hk; exact .inr (.inr hk)
    · intro k _ hk; exact .inl hk
    · intro k _ hk; exact .inr (.inl hk)

set_option maxHeartbeats 2000000 in
theorem put_ok {B : Nat} {w : World} {hb ab ac most : Nat} {rv : Value} {row : List Ent} (id prio seq : Int) (h : HP B w hb rv ab ac most row) (hk : knB most id = true) (hp : place row id.toNat = 0) (hB : B ≤ w.heap.size) :
    Calls Try.prog 11 #[.pointer (some ⟨hb, 0, none⟩), .int .i64 id, .int .i64 prio, .int .i64 seq] w fun e w' => e = .returned (.int .i64 0) ∧ ∃ rv',
      HP B w' hb rv' ab ac most (rise row.length (row ++ [⟨id, prio, seq⟩]) row.length) ∧ Turns (Foot hb rv ab) w w' ∧ (rv'.ownBlock = rv.ownBlock ∨ ∀ k, rv'.ownBlock = some k → w.heap.size ≤ k) := by
  have hc1 := h.c1
  have hc0 := h.c0
  have hlen := h.len
  have htop := h.top
  have hh : hasB most row id = false := by simp [hasB, hp]
  obtain ⟨k1, k2⟩ : 0 ≤ id ∧ id < (most : Int) := by simpa [knB] using hk
  have hno : ∀ i, i < row.length → (at' row i).id ≠ id := by
    rcases place_cases row id.toNat with ⟨_, hx⟩ | ⟨i, hi, hid, hpp⟩
    · intro i hi hc
      have := hx i hi
      omega
    · omega
  have HNO : Hid (∀ i, i < row.length → (at' row i).id ≠ id) := hno
  clear hp hno
  obtain ⟨i, hi, hz0, hz1, hz2⟩ := info_parts Try.info62
  have hown := h.own
  have hnews : ∀ j u, (entV ⟨id, prio, seq⟩)[j]? = some u → (w.alloc (.cells #[.int .i64 id, .int .i64 prio, .int .i64 seq] 62)).cell? ((⟨w.heap.size, 0, none⟩ : Addr).add j) = some u := by
    intro j u hu
    rw [Addr.add_lit, Nat.zero_add, World.cell?_alloc_at _ _ _ _ rfl]
    simpa [entV] using hu
  rcases h.form with ⟨rfl, hnil⟩ | ⟨g0, cap0, rfl, hnil, _, _⟩
  all_goals
    clear hnil
    go_enter Try.func11, Try.ntmps11
    go_wp2_with fail
    refine (known_any hb ab ac most id _ hc1).mono ?_
    rintro e w1 ⟨rfl, hw⟩
    subst w1
    rw [hk]
    go_wp2_with fail
    refine (has_any id h).mono ?_
    rintro e w1 ⟨rfl, hw⟩
    subst w1
    rw [hh]
    go_wp2_with (at_builtin; refine wpList_append_lies _ rfl _ _ _ rfl B 62 i _ 3 24 Try.underlying58 hi hz0 hz1 hz2 rfl (by omega) _ row.length (flat row) (by rfl) (hown.alloc _) ⟨w.heap.size, 0, none⟩ 1 1 (entV ⟨id, prio, seq⟩) (by rfl) (by rfl) hnews (entV_one _) (by omega) (by unfold maxLen; omega) (by omega) (by simp; omega) (w.heap.size + 1) (by simp) ?_; intro g cap w1 hown1 hgrow hat hlt; have HQ := put_parts h k1 k2 HNO.out hown1 (((Turns.refl _ _).alloc _).trans (Turns.grown hgrow (fun k hk => hk))) (hat.imp (fun x => x) (fun x => by omega)); have q1 := HQ.c0; have q2 := HQ.f0)
    obtain ⟨_, _, d1, d2, p5, p6, ⟨u, p7⟩, p8, p9, p10⟩ := HQ
    clear q1 q2 hown hown1 hnews hc0 hc1
    generalize hW2 : w1.setCell ⟨hb, 0, none⟩ (.slice (some ⟨g, 0, none⟩) (row.length + 1) cap) = W2 at *
    go_region
    have d0 := h.d1
    go_wp2_with fail
    have hl1 : (row ++ [(⟨id, prio, seq⟩ : Ent)]).length = row.length + 1 := by simp
    refine (rise_any (B := B) (g := g) (cap := cap) (ab := ab) (ac := ac) (most := most) (row := row ++ [⟨id, prio, seq⟩]) (p := row.length) ?_ (by rw [hl1]; omega)).mono ?_
    · rw [hl1]
      exact ⟨p9.own, p9.ats, p9.hd, p9.d1, p9.d2, p9.d3, p9.good, p9.top, p9.len⟩
    rw [hl1]
    rintro e w3 ⟨rfl, h3, t3⟩
    go_wp2_with fail
    go_ret
    refine ⟨rfl, _, h3, ?_, ?_⟩
    · refine p10.drew.next t3 ?_
      intro k hk hkk
      rcases hkk with rfl | rfl
      · exact .inr (.inl rfl)
      · rcases hat with hat | hat
        · exact .inr (.inr hat)
        · omega
    · rcases hat with hat | hat
      · exact .inl hat.symm
      · refine .inr ?_
        intro k hk
        simp [Value.ownBlock] at hk
        omega
end Go.Proofs.Ythlnbnklhajilaa
