/- The exchange of two places of a heap, by its contract. -/
import Derived.Test.YthlnbnklhajilaaMem
namespace Go.Proofs.Ythlnbnklhajilaa
open Go.RowKit Hp

/-- What swap leaves of the world, in cells. -/
def swapW (w : World) (g ab a b : Nat) (x y : Ent) : World :=
  ((((((((w.setCell ⟨g, a * 3, none⟩ (.int .i64 y.id)).setCell ⟨g, a * 3 + 1, none⟩ (.int .i64 y.prio)).setCell ⟨g, a * 3 + 2, none⟩ (.int .i64 y.seq)).setCell
    ⟨g, b * 3, none⟩ (.int .i64 x.id)).setCell ⟨g, b * 3 + 1, none⟩ (.int .i64 x.prio)).setCell ⟨g, b * 3 + 2, none⟩ (.int .i64 x.seq)).setCell
    ⟨ab, y.id.toNat, none⟩ (.int .i64 ((a : Int) + 1))).setCell ⟨ab, x.id.toNat, none⟩ (.int .i64 ((b : Int) + 1)))

/-- The first six stores. -/
def swapR (w : World) (g a b : Nat) (x y : Ent) : World :=
  (((((w.setCell ⟨g, a * 3, none⟩ (.int .i64 y.id)).setCell ⟨g, a * 3 + 1, none⟩ (.int .i64 y.prio)).setCell ⟨g, a * 3 + 2, none⟩ (.int .i64 y.seq)).setCell
    ⟨g, b * 3, none⟩ (.int .i64 x.id)).setCell ⟨g, b * 3 + 1, none⟩ (.int .i64 x.prio)).setCell ⟨g, b * 3 + 2, none⟩ (.int .i64 x.seq)

theorem swapW_eq (w : World) (g ab a b : Nat) (x y : Ent) : swapW w g ab a b x y = ((swapR w g a b x y).setCell ⟨ab, y.id.toNat, none⟩ (.int .i64 ((a : Int) + 1))).setCell ⟨ab, x.id.toNat, none⟩ (.int .i64 ((b : Int) + 1)) := rfl

theorem swapR_turns (w : World) (g a b : Nat) (x y : Ent) : Turns (fun k => k = g) w (swapR w g a b x y) :=
  Turns.setCell (S := fun k => k = g) (Turns.setCell (S := fun k => k = g) (Turns.setCell (S := fun k => k = g) (Turns.setCell (S := fun k => k = g) (Turns.setCell (S := fun k => k = g) (Turns.setCell (S := fun k => k = g) (Turns.refl _ w) rfl _) rfl _) rfl _) rfl _) rfl _) rfl _

theorem swapR_own {B : Nat} {w : World} {g n cap : Nat} {row : List Ent} (h : w.ownsRow B 62 3 (.slice (some ⟨g, 0, none⟩) n cap) n (flat row)) {a b : Nat} (ha : a < row.length) (hbl : b < row.length) :
    (swapR w g a b (at' row a) (at' row b)).ownsRow B 62 3 (.slice (some ⟨g, 0, none⟩) n cap) n (flat (swp row a b)) :=
  own_set (own_set h a ha (at' row b)) b (by simpa using hbl) (at' row a)

theorem swapW_turns (w : World) (g ab a b : Nat) (x y : Ent) : Turns (fun k => k = ab) (swapR w g a b x y) (swapW w g ab a b x y) := by
  rw [swapW_eq]
  exact Turns.setCell (S := fun k => k = ab) (Turns.setCell (S := fun k => k = ab) (Turns.refl _ _) rfl _) rfl _

theorem swap_hp {B : Nat} {w : World} {hb g cap ab ac most : Nat} {row : List Ent} {a b : Nat} (h : HP B w hb (.slice (some ⟨g, 0, none⟩) row.length cap) ab ac most row) (ha : a < row.length) (hbl : b < row.length) :
    HP B (swapW w g ab a b (at' row a) (at' row b)) hb (.slice (some ⟨g, 0, none⟩) row.length cap) ab ac most (swp row a b) ∧ Turns (fun k => k = ab ∨ k = g) w (swapW w g ab a b (at' row a) (at' row b)) := by
  have hg : hb ≠ g := fun e => h.d2 (by rw [e]; rfl)
  have hag : ab ≠ g := fun e => h.d3 (by rw [e]; rfl)
  have t1 := swapR_turns w g a b (at' row a) (at' row b)
  have t2 := swapW_turns w g ab a b (at' row a) (at' row b)
  have hT : Turns (fun k => k = ab ∨ k = g) w (swapW w g ab a b (at' row a) (at' row b)) :=
    (t1.mono (fun k _ h => Or.inr h)).trans (t2.mono (fun k _ h => Or.inl h))
  refine ⟨⟨?_, ?_, ?_, h.d1, h.d2, h.d3, good_swp h.good ha hbl, h.top, by rw [swp_length]; exact h.len⟩, hT⟩
  · rw [swp_length]
    exact owns_turns (swapR_own h.own ha hbl) t2 (fun k hk e => hag (by simp [Value.ownBlock] at hk; omega))
  · have o := owns_turns h.ats t1 (fun k hk e => hag (by simp [Value.ownBlock] at hk; omega))
    have o2 := ((o.stored (at' row b).id.toNat (.int .i64 ((a : Int) + 1))).1.stored (at' row a).id.toNat (.int .i64 ((b : Int) + 1))).1
    rw [atOf_swp h.good ha hbl, List.map_set, List.map_set]
    exact o2
  · exact owns_turns h.hd hT (fun k hk e => by simp [Value.ownBlock] at hk; have := h.d1; rcases e with e | e <;> omega)

set_option maxHeartbeats 4000000 in
set_option maxRecDepth 1000000 in
theorem swap_unlike (hb g ab ac n cap most : Nat) (a b : Nat) (w : World) (x y : Ent) (hn : n ≤ 256) (_hm : most ≤ 256) (han : a < n) (hbn : b < n) (hab : a ≠ b)
    (d1 : hb ≠ g) (d2 : hb ≠ ab) (d3 : ab ≠ g)
    (hr : w.cell? ⟨hb, 0, none⟩ = some (.slice (some ⟨g, 0, none⟩) n cap)) (_ha : w.cell? ⟨hb, 1, none⟩ = some (.slice (some ⟨ab, 0, none⟩) most ac))
    (c1 : w.cell? ⟨g, a * 3, none⟩ = some (.int .i64 x.id)) (c2 : w.cell? ⟨g, a * 3 + 1, none⟩ = some (.int .i64 x.prio)) (c3 : w.cell? ⟨g, a * 3 + 2, none⟩ = some (.int .i64 x.seq))
    (e1 : w.cell? ⟨g, b * 3, none⟩ = some (.int .i64 y.id)) (e2 : w.cell? ⟨g, b * 3 + 1, none⟩ = some (.int .i64 y.prio)) (e3 : w.cell? ⟨g, b * 3 + 2, none⟩ = some (.int .i64 y.seq))
    (fg : ∀ j, w.frozen? ⟨g, j, none⟩ = false)
    (x0 : 0 ≤ x.id) (x1 : x.id < most) (y0 : 0 ≤ y.id) (y1 : y.id < most) (u v : Value)
    (W1 : World) (hW1 : W1 = swapR w g a b x y)
    (gr : W1.cell? ⟨hb, 0, none⟩ = some (.slice (some ⟨g, 0, none⟩) n cap)) (ga : W1.cell? ⟨hb, 1, none⟩ = some (.slice (some ⟨ab, 0, none⟩) most ac))
    (gy : W1.cell? ⟨g, a * 3, none⟩ = some (.int .i64 y.id)) (_gx : W1.cell? ⟨g, b * 3, none⟩ = some (.int .i64 x.id))
    (_gu : W1.cell? ⟨ab, x.id.toNat, none⟩ = some u) (gv : W1.cell? ⟨ab, y.id.toNat, none⟩ = some v)
    (gf : ∀ j, W1.frozen? ⟨ab, j, none⟩ = false) 
    (W2 : World) (hW2 : W2 = W1.setCell ⟨ab, y.id.toNat, none⟩ (.int .i64 ((a : Int) + 1)))
    (kr : W2.cell? ⟨hb, 0, none⟩ = some (.slice (some ⟨g, 0, none⟩) n cap)) (ka : W2.cell? ⟨hb, 1, none⟩ = some (.slice (some ⟨ab, 0, none⟩) most ac))
    (kx : W2.cell? ⟨g, b * 3, none⟩ = some (.int .i64 x.id)) (ku : W2.cell? ⟨ab, x.id.toNat, none⟩ = some u)
    (kf : ∀ j, W2.frozen? ⟨ab, j, none⟩ = false) :
    Calls Try.prog 31 #[.pointer (some ⟨hb, 0, none⟩), .int .i64 a, .int .i64 b] w fun e w' => e = .returned (.tuple #[]) ∧ ∃ q, w' = (W2.setCell ⟨ab, x.id.toNat, none⟩ (.int .i64 ((b : Int) + 1))).drewN q := by
  have p1 : (a : Int) < (n : Int) := by omega
  have p2 : (b : Int) < (n : Int) := by omega
  have HW1 : Hid (W1 = swapR w g a b x y) := hW1
  have HW2 : Hid (W2 = W1.setCell ⟨ab, y.id.toNat, none⟩ (.int .i64 ((a : Int) + 1))) := hW2
  clear hW1 hW2
  go_enter Try.func31, Try.ntmps31
  go_wp2
  go_region
  go_wp2
  have hW1' := HW1.out
  unfold swapR at hW1'
  rw [← hW1']
  clear hW1' hr _ha c1 c2 c3 e1 e2 e3 fg
  go_region
  go_wp2
  rw [← HW2.out]
  clear gr ga gy _gx _gu gv gf
  go_region
  go_wp2
  go_end0
  exact ⟨rfl, 3, rfl⟩

set_option maxHeartbeats 4000000 in
set_option maxRecDepth 1000000 in
theorem swap_like (hb g ab ac n cap most : Nat) (a : Nat) (w : World) (x : Ent) (hn : n ≤ 256) (_hm : most ≤ 256) (han : a < n)
    (_d1 : hb ≠ g) (_d2 : hb ≠ ab) (_d3 : ab ≠ g)
    (hr : w.cell? ⟨hb, 0, none⟩ = some (.slice (some ⟨g, 0, none⟩) n cap)) (_ha : w.cell? ⟨hb, 1, none⟩ = some (.slice (some ⟨ab, 0, none⟩) most ac))
    (c1 : w.cell? ⟨g, a * 3, none⟩ = some (.int .i64 x.id)) (c2 : w.cell? ⟨g, a * 3 + 1, none⟩ = some (.int .i64 x.prio)) (c3 : w.cell? ⟨g, a * 3 + 2, none⟩ = some (.int .i64 x.seq))
    (fg : ∀ j, w.frozen? ⟨g, j, none⟩ = false)
    (x0 : 0 ≤ x.id) (x1 : x.id < most) (u : Value)
    (W1 : World) (hW1 : W1 = swapR w g a a x x)
    (gr : W1.cell? ⟨hb, 0, none⟩ = some (.slice (some ⟨g, 0, none⟩) n cap)) (ga : W1.cell? ⟨hb, 1, none⟩ = some (.slice (some ⟨ab, 0, none⟩) most ac))
    (gx : W1.cell? ⟨g, a * 3, none⟩ = some (.int .i64 x.id))
    (gu : W1.cell? ⟨ab, x.id.toNat, none⟩ = some u)
    (gf : ∀ j, W1.frozen? ⟨ab, j, none⟩ = false) 
    (W2 : World) (hW2 : W2 = W1.setCell ⟨ab, x.id.toNat, none⟩ (.int .i64 ((a : Int) + 1)))
    (kr : W2.cell? ⟨hb, 0, none⟩ = some (.slice (some ⟨g, 0, none⟩) n cap)) (ka : W2.cell? ⟨hb, 1, none⟩ = some (.slice (some ⟨ab, 0, none⟩) most ac))
    (kx : W2.cell? ⟨g, a * 3, none⟩ = some (.int .i64 x.id)) (ku : W2.cell? ⟨ab, x.id.toNat, none⟩ = some (.int .i64 ((a : Int) + 1)))
    (kf : ∀ j, W2.frozen? ⟨ab, j, none⟩ = false) :
    Calls Try.prog 31 #[.pointer (some ⟨hb, 0, none⟩), .int .i64 a, .int .i64 a] w fun e w' => e = .returned (.tuple #[]) ∧ ∃ q, w' = (W2.setCell ⟨ab, x.id.toNat, none⟩ (.int .i64 ((a : Int) + 1))).drewN q := by
  have p1 : (a : Int) < (n : Int) := by omega
  have HW1 : Hid (W1 = swapR w g a a x x) := hW1
  have HW2 : Hid (W2 = W1.setCell ⟨ab, x.id.toNat, none⟩ (.int .i64 ((a : Int) + 1))) := hW2
  clear hW1 hW2
  go_enter Try.func31, Try.ntmps31
  go_wp2
  go_region
  go_wp2
  have hW1' := HW1.out
  unfold swapR at hW1'
  rw [← hW1']
  clear hW1' hr _ha c1 c2 c3 fg
  go_region
  go_wp2
  rw [← HW2.out]
  clear gr ga gx gu gf
  go_region
  go_wp2
  go_end0
  exact ⟨rfl, 3, rfl⟩

theorem HP.drewN {B : Nat} {w : World} {hb : Nat} {rv : Value} {ab ac most : Nat} {row : List Ent} (h : HP B w hb rv ab ac most row) (q : Nat) : HP B (w.drewN q) hb rv ab ac most row := ⟨h.own, h.ats, h.hd, h.d1, h.d2, h.d3, h.good, h.top, h.len⟩

theorem swap_any {B : Nat} {w : World} {hb g cap ab ac most : Nat} {row : List Ent} {a b : Nat} (h : HP B w hb (.slice (some ⟨g, 0, none⟩) row.length cap) ab ac most row) (ha : a < row.length) (hbl : b < row.length) :
    Calls Try.prog 31 #[.pointer (some ⟨hb, 0, none⟩), .int .i64 a, .int .i64 b] w fun e w' => e = .returned (.tuple #[]) ∧
      HP B w' hb (.slice (some ⟨g, 0, none⟩) row.length cap) ab ac most (swp row a b) ∧ Turns (fun k => k = ab ∨ k = g) w w' := by
  have hg : hb ≠ g := fun e => h.d2 (by rw [e]; rfl)
  have hag : ab ≠ g := fun e => h.d3 (by rw [e]; rfl)
  have hfin := swap_hp h ha hbl
  have t1 := swapR_turns w g a b (at' row a) (at' row b)
  have o1 := swapR_own h.own ha hbl
  have o2 := owns_turns h.hd t1 (fun k hk e => hg (by simp [Value.ownBlock] at hk; omega))
  have o3 := owns_turns h.ats t1 (fun k hk e => hag (by simp [Value.ownBlock] at hk; omega))
  have t2 : Turns (fun k => k = ab) (swapR w g a b (at' row a) (at' row b)) ((swapR w g a b (at' row a) (at' row b)).setCell ⟨ab, (at' row b).id.toNat, none⟩ (.int .i64 ((a : Int) + 1))) :=
    Turns.setCell (S := fun k => k = ab) (Turns.refl _ _) rfl _
  have q1 := owns_turns o1 t2 (fun k hk e => hag (by simp [Value.ownBlock] at hk; omega))
  have q2 := owns_turns o2 t2 (fun k hk e => h.d1 (by simp [Value.ownBlock] at hk; omega))
  have q3 := (o3.stored (at' row b).id.toNat (.int .i64 ((a : Int) + 1))).1
  have ga := own_get h.own rfl a ha
  have gb := own_get h.own rfl b hbl
  have xa := own_get o1 (by rw [swp_length]) a (by rw [swp_length]; exact ha)
  have xb := own_get o1 (by rw [swp_length]) b (by rw [swp_length]; exact hbl)
  have yb := own_get q1 (by rw [swp_length]) b (by rw [swp_length]; exact hbl)
  have ea : at' (swp row a b) a = at' row b := by rw [at_swp row a b a ha hbl]; split <;> simp_all
  have eb : at' (swp row a b) b = at' row a := by rw [at_swp row a b b ha hbl, if_pos rfl]
  rw [ea] at xa
  rw [eb] at xb yb
  have la := h.good.lo a ha
  have ua := h.good.hi a ha
  have lb := h.good.lo b hbl
  have ub := h.good.hi b hbl
  have cellAb : ∀ j, j < most → ∃ u, (swapR w g a b (at' row a) (at' row b)).cell? ⟨ab, j, none⟩ = some u := by
    intro j hj
    rw [o3.cellAt j (by omega), List.getElem?_map, atOf_get _ _ _ hj]
    exact ⟨_, rfl⟩
  have hl := h.len
  have ht := h.top
  obtain ⟨u, hu⟩ := cellAb (at' row a).id.toNat (by omega)
  obtain ⟨v, hv⟩ := cellAb (at' row b).id.toNat (by omega)
  by_cases hab : a = b
  · subst hab
    refine (swap_like hb g ab ac row.length cap most a w (at' row a) h.len h.top ha hg h.d1 hag h.c0 h.c1 ga.1 ga.2.1 ga.2.2 h.own.frozenAt la ua u
      (swapR w g a a (at' row a) (at' row a)) rfl (by rw [o2.cellAt 0 (by omega)]; rfl) (by rw [o2.cellAt 1 (by omega)]; rfl) xa.1 hu o3.frozenAt
      _ rfl (by rw [q2.cellAt 0 (by omega)]; rfl) (by rw [q2.cellAt 1 (by omega)]; rfl) yb.1 (World.cell?_setCell_same _ _ _ hu) q3.frozenAt).mono ?_
    rintro e w' ⟨rfl, q, rfl⟩
    exact ⟨rfl, hfin.1.drewN q, hfin.2.drewN q⟩
  · have hne : (at' row a).id.toNat ≠ (at' row b).id.toNat := by
      intro e
      exact hab (h.good.nd a b ha hbl (by omega))
    refine (swap_unlike hb g ab ac row.length cap most a b w (at' row a) (at' row b) h.len h.top ha hbl hab hg h.d1 hag h.c0 h.c1 ga.1 ga.2.1 ga.2.2 gb.1 gb.2.1 gb.2.2 h.own.frozenAt la ua lb ub u v
      (swapR w g a b (at' row a) (at' row b)) rfl (by rw [o2.cellAt 0 (by omega)]; rfl) (by rw [o2.cellAt 1 (by omega)]; rfl) xa.1 xb.1 hu hv o3.frozenAt
      _ rfl (by rw [q2.cellAt 0 (by omega)]; rfl) (by rw [q2.cellAt 1 (by omega)]; rfl) yb.1 (by rw [World.cell?_setCell_other _ _ _ _ (by intro e; simp only [Addr.mk.injEq] at e; omega)]; exact hu) q3.frozenAt).mono ?_
    rintro e w' ⟨rfl, q, rfl⟩
    exact ⟨rfl, hfin.1.drewN q, hfin.2.drewN q⟩
end Go.Proofs.Ythlnbnklhajilaa
