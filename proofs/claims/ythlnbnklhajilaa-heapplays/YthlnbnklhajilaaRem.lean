/- Set and Remove of a heap, by their contracts. -/
import Derived.Test.YthlnbnklhajilaaPut
namespace Go.Proofs.Ythlnbnklhajilaa
open Go.RowKit Hp

theorem set_self {l : List Value} {i : Nat} {v : Value} (h : l[i]? = some v) : l.set i v = l := by
  apply List.ext_getElem?
  intro j
  rw [List.getElem?_set]
  split
  · rename_i e; subst e; rw [h]; split
    · rfl
    · rename_i hx; rw [List.getElem?_eq_none (by omega)] at h; cases h
  · rfl

theorem flat_setPrio (row : List Ent) (p : Nat) (v : Int) (hp : p < row.length) : (flat row).set (p * 3 + 1) (.int .i64 v) = flat (setPrio row p v) := by
  unfold setPrio
  rw [← flat_set row p _ hp]
  have g0 := flat_get' row p 0 hp (by omega)
  have g2 := flat_get' row p 2 hp (by omega)
  rw [set_self (l := flat row) (i := p * 3) (by exact g0)]
  refine (set_self ?_).symm
  rw [List.getElem?_set_ne (by omega)]
  exact g2

theorem set_hp {B : Nat} {w : World} {hb g cap ab ac most : Nat} {row : List Ent} {p : Nat} (v : Int) (h : HP B w hb (.slice (some ⟨g, 0, none⟩) row.length cap) ab ac most row) (hp : p < row.length) :
    HP B (w.setCell ⟨g, p * 3 + 1, none⟩ (.int .i64 v)) hb (.slice (some ⟨g, 0, none⟩) row.length cap) ab ac most (setPrio row p v) ∧ Turns (fun k => k = ab ∨ k = g) w (w.setCell ⟨g, p * 3 + 1, none⟩ (.int .i64 v)) := by
  have hg : hb ≠ g := fun e => h.d2 (by rw [e]; rfl)
  have hag : ab ≠ g := fun e => h.d3 (by rw [e]; rfl)
  have t : Turns (fun k => k = g) w (w.setCell ⟨g, p * 3 + 1, none⟩ (.int .i64 v)) := Turns.setCell (S := fun k => k = g) (Turns.refl _ _) rfl _
  refine ⟨⟨?_, ?_, ?_, h.d1, h.d2, h.d3, good_setPrio h.good p v hp, h.top, by rw [setPrio_length]; exact h.len⟩, t.mono (fun _ _ h => .inr h)⟩
  · rw [setPrio_length, ← flat_setPrio row p v hp]
    exact (h.own.stored (p * 3 + 1) _).1
  · rw [atOf_setPrio h.good p v hp]
    exact owns_turns h.ats t (fun k hk e => hag (by simp [Value.ownBlock] at hk; omega))
  · exact owns_turns h.hd t (fun k hk e => hg (by simp [Value.ownBlock] at hk; omega))

set_option maxHeartbeats 1000000 in
theorem set_arg {B : Nat} {w : World} {hb ab ac most : Nat} {rv : Value} {row : List Ent} (id prio : Int) (h : HP B w hb rv ab ac most row) (hk : knB most id = false) :
    Calls Try.prog 13 #[.pointer (some ⟨hb, 0, none⟩), .int .i64 id, .int .i64 prio] w fun e w' => e = .returned (.int .i64 1) ∧ w' = w := by
  go_enter Try.func13, Try.ntmps13
  go_wp2_with fail
  refine (find_arg id h hk).mono ?_
  rintro e w1 ⟨rfl, rfl⟩
  go_wp2_with fail
  go_ret
  exact ⟨rfl, rfl⟩

set_option maxHeartbeats 1000000 in
theorem set_none {B : Nat} {w : World} {hb ab ac most : Nat} {rv : Value} {row : List Ent} (id prio : Int) (h : HP B w hb rv ab ac most row) (hk : knB most id = true) (hp : place row id.toNat = 0) :
    Calls Try.prog 13 #[.pointer (some ⟨hb, 0, none⟩), .int .i64 id, .int .i64 prio] w fun e w' => e = .returned (.int .i64 8) ∧ w' = w := by
  go_enter Try.func13, Try.ntmps13
  go_wp2_with fail
  refine (find_none id h hk hp).mono ?_
  rintro e w1 ⟨rfl, rfl⟩
  go_wp2_with fail
  go_ret
  exact ⟨rfl, rfl⟩

theorem rise_keeps (p : Nat) (row : List Ent) (q : Nat) : (rise q row p).length = row.length := rise_len q row p

set_option maxHeartbeats 1000000 in
theorem set_ok {B : Nat} {w : World} {hb ab ac most : Nat} {rv : Value} {row : List Ent} (id prio : Int) (p : Nat) (h : HP B w hb rv ab ac most row) (hk : knB most id = true) (hp : place row id.toNat = (p : Int) + 1) (hpl : p < row.length) :
    Calls Try.prog 13 #[.pointer (some ⟨hb, 0, none⟩), .int .i64 id, .int .i64 prio] w fun e w' => e = .returned (.int .i64 0) ∧
      HP B w' hb rv ab ac most (sink row.length (rise p (setPrio row p prio) p) p) ∧ Turns (Foot hb rv ab) w w' := by
  have hlen := h.len
  have hc0 := h.c0
  rcases h.form with ⟨rfl, hnil⟩ | ⟨g, cap, rfl, _, d1, d2⟩
  · rw [hnil] at hpl; simp at hpl
  · have hs := set_hp prio h hpl
    have gx := (own_get h.own rfl p hpl).2.1
    have fz := h.own.frozenAt (p * 3 + 1)
    have b1 : (p : Int) < (row.length : Int) := by omega
    go_enter Try.func13, Try.ntmps13
    go_wp2_with fail
    refine (find_some id p h hk hp hpl).mono ?_
    rintro e w1 ⟨rfl, hw⟩
    subst w1
    clear hp
    go_wp2_with fail
    refine (settle_any (B := B) (g := g) (cap := cap) (ab := ab) (ac := ac) (most := most) (row := setPrio row p prio) (p := p) (by rw [setPrio_length]; exact hs.1) (by rw [setPrio_length]; exact hpl) (rise_len _ _ _)).mono ?_
    rw [setPrio_length]
    rintro e w2 ⟨rfl, h2, t2⟩
    go_wp2_with fail
    go_ret
    refine ⟨rfl, h2, (hs.2.trans t2).mono ?_⟩
    intro k _ hk
    rcases hk with rfl | rfl
    · exact .inr (.inl rfl)
    · exact .inr (.inr rfl)

set_option maxHeartbeats 1000000 in
theorem remove_arg {B : Nat} {w : World} {hb ab ac most : Nat} {rv : Value} {row : List Ent} (id : Int) (h : HP B w hb rv ab ac most row) (hk : knB most id = false) :
    Calls Try.prog 15 #[.pointer (some ⟨hb, 0, none⟩), .int .i64 id] w fun e w' => e = .returned (.int .i64 1) ∧ w' = w := by
  go_enter Try.func15, Try.ntmps15
  go_wp2_with fail
  refine (find_arg id h hk).mono ?_
  rintro e w1 ⟨rfl, rfl⟩
  go_wp2_with fail
  go_ret
  exact ⟨rfl, rfl⟩

set_option maxHeartbeats 1000000 in
theorem remove_none {B : Nat} {w : World} {hb ab ac most : Nat} {rv : Value} {row : List Ent} (id : Int) (h : HP B w hb rv ab ac most row) (hk : knB most id = true) (hp : place row id.toNat = 0) :
    Calls Try.prog 15 #[.pointer (some ⟨hb, 0, none⟩), .int .i64 id] w fun e w' => e = .returned (.int .i64 8) ∧ w' = w := by
  go_enter Try.func15, Try.ntmps15
  go_wp2_with fail
  refine (find_none id h hk hp).mono ?_
  rintro e w1 ⟨rfl, rfl⟩
  go_wp2_with fail
  go_ret
  exact ⟨rfl, rfl⟩

/-- What the walk of Remove needs behind the exchange. -/
structure RemOut (B : Nat) (w : World) (hb g cap ab ac most n : Nat) (id : Int) (row : List Ent) : Prop where
  c0 : w.cell? ⟨hb, 0, none⟩ = some (.slice (some ⟨g, 0, none⟩) (n + 1) cap)
  f0 : ∀ j, w.frozen? ⟨hb, j, none⟩ = false
  c1 : w.cell? ⟨hb, 1, none⟩ = some (.slice (some ⟨ab, 0, none⟩) most ac)
  c2 : ∃ u, w.cell? ⟨ab, id.toNat, none⟩ = some u
  f2 : ∀ j, w.frozen? ⟨ab, j, none⟩ = false
  hp : HP B ((w.setCell ⟨hb, 0, none⟩ (.slice (some ⟨g, 0, none⟩) n cap)).setCell ⟨ab, id.toNat, none⟩ (.int .i64 0)) hb (.slice (some ⟨g, 0, none⟩) n cap) ab ac most (cut row)
  tu : Turns (fun k => k = hb ∨ k = ab) w ((w.setCell ⟨hb, 0, none⟩ (.slice (some ⟨g, 0, none⟩) n cap)).setCell ⟨ab, id.toNat, none⟩ (.int .i64 0))

theorem rem_parts {B : Nat} {w : World} {hb g cap ab ac most n : Nat} {id : Int} {row : List Ent} (h : HP B w hb (.slice (some ⟨g, 0, none⟩) row.length cap) ab ac most row) (hn : row.length = n + 1) (hid : (at' row n).id = id) :
    RemOut B w hb g cap ab ac most n id row := by
  have d1 : hb ≠ g := fun e => h.d2 (by rw [e]; rfl)
  have d2 : ab ≠ g := fun e => h.d3 (by rw [e]; rfl)
  have l0 := h.good.lo n (by omega)
  have l1 := h.good.hi n (by omega)
  rw [hid] at l0 l1
  have t2 : Turns (fun k => k = hb) w (w.setCell ⟨hb, 0, none⟩ (.slice (some ⟨g, 0, none⟩) n cap)) := Turns.setCell (S := fun k => k = hb) (Turns.refl _ _) rfl _
  have t3 : Turns (fun k => k = ab) (w.setCell ⟨hb, 0, none⟩ (.slice (some ⟨g, 0, none⟩) n cap)) ((w.setCell ⟨hb, 0, none⟩ (.slice (some ⟨g, 0, none⟩) n cap)).setCell ⟨ab, id.toNat, none⟩ (.int .i64 0)) := Turns.setCell (S := fun k => k = ab) (Turns.refl _ _) rfl _
  have s2 := (h.hd.stored 0 (.slice (some ⟨g, 0, none⟩) n cap)).1
  have s3 := owns_turns h.ats t2 (fun k hk e => h.d1 (by simp [Value.ownBlock] at hk; omega))
  have hl : (cut row).length = n := by rw [cut_length]; omega
  have o : w.ownsRow B 62 3 (.slice (some ⟨g, 0, none⟩) n cap) n (flat (cut row)) := by
    have ho := h.own
    have hc := cut_snoc row (by omega)
    have hf : flat row = flat (cut row) ++ entV (at' row n) := by
      rw [← flat_snoc]
      congr 1
      rw [hn] at hc
      exact hc
    rw [hf, hn] at ho
    exact ownsRow_pop (by rw [flat_length, hl]) ho
  have s1 := owns_turns o t2 (fun k hk e => d1 (by simp [Value.ownBlock] at hk; omega))
  refine ⟨by rw [h.c0, hn], h.f0, h.c1, ⟨_, h.at id.toNat (by omega)⟩, h.fa, ?_, ?_⟩
  · refine ⟨?_, ?_, ?_, h.d1, ?_, ?_, good_cut h.good, h.top, by have := h.len; omega⟩
    · rw [hl]
      exact owns_turns s1 t3 (fun k hk e => d2 (by simp [Value.ownBlock] at hk; omega))
    · rw [atOf_cut h.good (by omega), List.map_set]
      rw [show row.length - 1 = n from by omega, hid]
      exact (s3.stored id.toNat _).1
    · exact owns_turns s2 t3 (fun k hk e => h.d1 (by simp [Value.ownBlock] at hk; omega))
    · intro x; exact d1 (by simp [Value.ownBlock] at x; omega)
    · intro x; exact d2 (by simp [Value.ownBlock] at x; omega)
  · exact (t2.mono (fun _ _ h => Or.inl h)).trans (t3.mono (fun _ _ h => Or.inr h))

/-- The row behind Remove of the one at p. -/
def remR (row : List Ent) (p : Nat) : List Ent := if p = row.length - 1 then rem row p else sink (row.length - 1) (rise p (rem row p) p) p

set_option maxHeartbeats 2000000 in
theorem remove_ok {B : Nat} {w : World} {hb ab ac most : Nat} {rv : Value} {row : List Ent} (id : Int) (p : Nat) (h : HP B w hb rv ab ac most row) (hk : knB most id = true) (hp : place row id.toNat = (p : Int) + 1) (hpl : p < row.length) (hid : (at' row p).id = id) :
    Calls Try.prog 15 #[.pointer (some ⟨hb, 0, none⟩), .int .i64 id] w fun e w' => e = .returned (.int .i64 0) ∧ ∃ rv',
      HP B w' hb rv' ab ac most (remR row p) ∧ Turns (Foot hb rv ab) w w' ∧ rv'.ownBlock = rv.ownBlock := by
  have hlen := h.len
  have htop := h.top
  have hc0 := h.c0
  obtain ⟨k1, k2⟩ : 0 ≤ id ∧ id < (most : Int) := by simpa [knB] using hk
  obtain ⟨n, hn⟩ : ∃ n, row.length = n + 1 := ⟨row.length - 1, by omega⟩
  have hrem : Hid (rem row p = cut (swp row p n)) := by show _ = _; unfold rem; rw [hn, Nat.add_sub_cancel]
  have HN1 : Hid (row.length - 1 = n) := by show _ = _; omega
  have HL : Hid ((swp row p n).length = n + 1) := by show _ = _; rw [swp_length, hn]
  have HID : Hid ((at' (swp row p n) n).id = id) := by show _ = _; rw [at_swp row p n n hpl (by omega), if_pos rfl]; exact hid
  have HN : Hid (row.length = n + 1) := hn
  have HP0 : Hid (place row id.toNat = (p : Int) + 1) := hp
  have HCL : Hid ((cut (swp row p n)).length = n) := by show _ = _; rw [cut_length, swp_length, hn, Nat.add_sub_cancel]
  have hpn : p ≤ n := by omega
  have hn256 : n + 1 ≤ 256 := by omega
  clear hid hp
  rcases h.form with ⟨rfl, hnil⟩ | ⟨g, cap, rfl, hcap, d1, d2⟩
  · rw [hnil] at hpl; simp at hpl
  · rw [HN.out] at hc0 hcap
    have d0 := h.d1
    clear hn
    by_cases hpe : p = n
    · have ht : ¬ (p : Int) < (n : Int) := by omega
      have HPE : Hid (p = n) := hpe
      clear hpe
      go_enter Try.func15, Try.ntmps15
      go_wp2_with fail
      refine (find_some id p h hk HP0.out hpl).mono ?_
      rintro e w1 ⟨rfl, hw⟩
      subst w1
      go_wp2_with fail
      refine (swap_any (B := B) (g := g) (cap := cap) (ab := ab) (ac := ac) (most := most) (row := row) (a := p) (b := n) h hpl (by rw [HN.out]; omega)).mono ?_
      rintro e w1 ⟨rfl, h1, t1⟩
      have R := rem_parts (n := n) (id := id) (row := swp row p n) (by rw [swp_length]; exact h1) HL.out HID.out
      obtain ⟨r0, r1, r2, ⟨u, r3⟩, r4, r5, r6⟩ := R
      clear hc0
      go_wp2_with fail
      go_ret
      have e1 : remR row p = cut (swp row p n) := by
        unfold remR; rw [HN1.out, if_pos HPE.out]; exact hrem.out
      refine ⟨rfl, .slice (some ⟨g, 0, none⟩) n cap, by rw [e1]; exact r5, ?_, rfl⟩
      refine (t1.mono ?_).trans (r6.mono ?_)
      · intro k _ hk
        rcases hk with rfl | rfl
        · exact .inr (.inl rfl)
        · exact .inr (.inr rfl)
      · intro k _ hk
        rcases hk with rfl | rfl
        · exact .inl rfl
        · exact .inr (.inl rfl)
    · have ht : (p : Int) < (n : Int) := by omega
      have HPE : Hid (¬ p = n) := hpe
      clear hpe
      go_enter Try.func15, Try.ntmps15
      go_wp2_with fail
      refine (find_some id p h hk HP0.out hpl).mono ?_
      rintro e w1 ⟨rfl, hw⟩
      subst w1
      go_wp2_with fail
      refine (swap_any (B := B) (g := g) (cap := cap) (ab := ab) (ac := ac) (most := most) (row := row) (a := p) (b := n) h hpl (by rw [HN.out]; omega)).mono ?_
      rintro e w1 ⟨rfl, h1, t1⟩
      have R := rem_parts (n := n) (id := id) (row := swp row p n) (by rw [swp_length]; exact h1) HL.out HID.out
      obtain ⟨r0, r1, r2, ⟨u, r3⟩, r4, r5, r6⟩ := R
      clear hc0
      go_wp2_with fail
      refine (settle_any (B := B) (g := g) (cap := cap) (ab := ab) (ac := ac) (most := most) (row := cut (swp row p n)) (p := p) (by rw [HCL.out]; exact r5) (by rw [HCL.out]; omega) (rise_len _ _ _)).mono ?_
      rw [HCL.out]
      rintro e w2 ⟨rfl, h2, t2⟩
      go_wp2_with fail
      go_ret
      have e1 : remR row p = sink n (rise p (cut (swp row p n)) p) p := by
        unfold remR; rw [HN1.out, if_neg HPE.out, hrem.out]
      refine ⟨rfl, .slice (some ⟨g, 0, none⟩) n cap, by rw [e1]; exact h2, ?_, rfl⟩
      refine ((t1.mono ?_).trans (r6.mono ?_)).trans (t2.mono ?_)
      · intro k _ hk
        rcases hk with rfl | rfl
        · exact .inr (.inl rfl)
        · exact .inr (.inr rfl)
      · intro k _ hk
        rcases hk with rfl | rfl
        · exact .inl rfl
        · exact .inr (.inl rfl)
      · intro k _ hk
        rcases hk with rfl | rfl
        · exact .inr (.inl rfl)
        · exact .inr (.inr rfl)
end Go.Proofs.Ythlnbnklhajilaa
