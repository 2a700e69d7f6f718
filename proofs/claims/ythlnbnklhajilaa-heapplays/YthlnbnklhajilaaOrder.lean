/- Order of a heap, by its contract. -/
import Derived.Test.YthlnbnklhajilaaDrain
namespace Go.Proofs.Ythlnbnklhajilaa
open Go.RowKit Hp

theorem HP.sl {B : Nat} {w : World} {hb : Nat} {rv : Value} {ab ac most : Nat} {row : List Ent} (h : HP B w hb rv ab ac most row) : ∃ a c, rv = .slice a row.length c := by
  rcases h.form with ⟨rfl, rfl⟩ | ⟨g, cap, rfl, _, _, _⟩
  · exact ⟨none, 0, rfl⟩
  · exact ⟨_, _, rfl⟩

theorem len_hp {B : Nat} {w : World} {hb : Nat} {rv : Value} {ab ac most : Nat} {row : List Ent} (h : HP B w hb rv ab ac most row) :
    Calls Try.prog 20 #[.pointer (some ⟨hb, 0, none⟩)] w fun e w' => e = .returned (.int .i64 row.length) ∧ w' = w := by
  obtain ⟨a, c, rfl⟩ := h.sl
  exact len_any hb row.length c a w h.c0

def idV (x : Ent) : Value := .int .i64 x.id
def lenOf : Value → Nat | .slice _ n _ => n | _ => 0

theorem idV_one (l : List Ent) : ∀ u ∈ l.map idV, u.oneCell' = true := by
  intro u hu
  simp only [List.mem_map] at hu
  obtain ⟨e, _, rfl⟩ := hu
  rfl

/-- The heap behind Remove of the one at its head. -/
theorem remove_head {B : Nat} {w : World} {hb ab ac most : Nat} {rv : Value} {row : List Ent} (h : HP B w hb rv ab ac most row) (hn : 0 < row.length) :
    Calls Try.prog 15 #[.pointer (some ⟨hb, 0, none⟩), .int .i64 (at' row 0).id] w fun e w' => e = .returned (.int .i64 0) ∧ ∃ rv',
      HP B w' hb rv' ab ac most (remR row 0) ∧ Turns (Foot hb rv ab) w w' ∧ rv'.ownBlock = rv.ownBlock := by
  have l0 := h.good.lo 0 hn
  have l1 := h.good.hi 0 hn
  refine remove_ok (at' row 0).id 0 h (by simp [knB]; omega) ?_ hn rfl
  exact place_eq row most _ 0 h.good hn (by omega)

set_option maxHeartbeats 2000000 in
theorem order_any {B : Nat} {w : World} {hb ab ac most : Nat} {rv : Value} {row : List Ent} (h : HP B w hb rv ab ac most row) (hB : B ≤ w.heap.size) :
    Calls Try.prog 24 #[.pointer (some ⟨hb, 0, none⟩)] w fun e w' => ∃ og, e = .returned (.slice (some ⟨og, 0, none⟩) row.length row.length) ∧
      w'.ownsRow B 3 1 (.slice (some ⟨og, 0, none⟩) row.length row.length) row.length ((drn row.length row).map idV) ∧ w.heap.size ≤ og ∧ Turns (fun _ => False) w w' := by
  obtain ⟨i, hi, hz0, hz1, hz2⟩ := info_parts Try.info3
  have hlen := h.len
  go_enter Try.func24, Try.ntmps24
  go_wp2_with fail
  go_step3
  go_wp2_with fail
  refine (twin_any h hB).mono ?_
  rintro e w1 ⟨hb1, rfl, rv1, ab1, ac1, O1⟩
  have hs1 := O1.tu.size
  have hB1 : B ≤ w1.heap.size := by omega
  go_wp2_with fail
  refine (len_hp O1.hp).mono ?_
  rintro e w2 ⟨rfl, hw⟩
  subst w2
  go_wp2_with (at_make; refine wpList_make_own _ rfl _ _ _ rfl B 3 i _ 1 Try.underlying48 hi hz0 hz1 .i64 .i64 _ row.length rfl rfl rfl (by rw [hz2]; omega) (by unfold maxLen; omega) hB1 ?_; intro w2 hown hgrow)
  go_step3
  go_wp2
  have hog : w1.heap.size < w2.heap.size := (hown.lt w1.heap.size rfl).2
  have hfoot := O1.hp.foot
  have hlo := O1.lo
  have HX : Hid (∀ k, Foot hb1 rv1 ab1 k → w.heap.size ≤ k ∧ k < w1.heap.size) := fun k hk => ⟨hlo k hk, (hfoot k hk).2⟩
  have hp2 := O1.hp.turns (Turns.grown (S := fun _ => False) hgrow (fun k hk => by cases hk)) (fun _ h => h.elim)
  have t2 : Turns (fun _ => False) w w2 := O1.tu.trans (Turns.grown hgrow (fun k hk => by cases hk))
  clear hfoot hlo hgrow
  generalize hOG : w1.heap.size = og at *
  have HOG : Hid (w1.heap.size = og) := hOG
  clear hOG
  go_loopw [4] (fun v wr => ∃ (gs rk : List Ent) (rvk : Value), v = .slice (some ⟨og, 0, none⟩) gs.length row.length ∧ Hid (gs.length + rk.length = row.length) ∧ Hid (gs ++ drn rk.length rk = drn row.length row) ∧
      wr.ownsRow B 3 1 (.slice (some ⟨og, 0, none⟩) gs.length row.length) gs.length (gs.map idV) ∧ HP B wr hb1 rvk ab1 ac1 most rk ∧ Hid (rvk.ownBlock = rv1.ownBlock) ∧ Turns (fun _ => False) w wr)
    (fun v _ => row.length - lenOf v)
  case atStart => exact ⟨[], row, rv1, rfl, by show _ = _; simp, by show _ = _; simp, hown, hp2, rfl, t2⟩
  case round =>
    obtain ⟨gs, rk, rvk, rfl, HL, HD, ho, hk, HV, ht⟩ := hrel
    clear hown hp2 t2 h
    by_cases hz : rk = []
    · subst hz
      go_wp2_with fail
      refine (top_none hk).mono ?_
      rintro e w3 ⟨rfl, hw⟩
      subst w3
      go_wp2_with fail
      rw [Exit.noGoto_ret]
      go_ret
      have hgl : gs.length = row.length := by have := HL.out; simpa using this
      have hgd : gs = drn row.length row := by have := HD.out; simpa [drn] using this
      refine ⟨og, ?_, ?_, hs1, ht⟩
      · show Ending.returned (.slice (some ⟨og, 0, none⟩) gs.length row.length) = _
        rw [hgl]
      · rw [hgl, hgd] at ho
        exact ho
    · have hpos : 0 < rk.length := List.length_pos_iff.2 hz
      clear hz
      go_wp2_with fail
      refine (top_some hk hpos).mono ?_
      rintro e w3 ⟨rfl, hw⟩
      subst w3
      have hLout := HL.out
      have hnews : ∀ j u, [idV (at' rk 0)][j]? = some u → (wr.alloc (.cells #[.int .i64 (at' rk 0).id] 3)).cell? ((⟨wr.heap.size, 0, none⟩ : Addr).add j) = some u := by
        intro j u hu
        rw [Addr.add_lit, Nat.zero_add, World.cell?_alloc_at _ _ _ _ rfl]
        simpa [idV] using hu
      go_wp2_with (at_builtin; refine wpList_append_fits _ rfl _ _ _ rfl B 3 i 1 Try.underlying48 hi hz1 og gs.length row.length (gs.map idV) (by rfl) (ho.alloc _) ⟨wr.heap.size, 0, none⟩ 1 1 [idV (at' rk 0)] (by rfl) rfl hnews (idV_one [at' rk 0]) (by omega) ?_; intro w4 ho4 hg4)
      have hFt : ∀ k, Foot hb1 rvk ab1 k → w.heap.size ≤ k ∧ k < og := by
        intro k hk
        refine HX.out k ?_
        rcases hk with hk | hk | hk
        · exact .inl hk
        · exact .inr (.inl hk)
        · exact .inr (.inr (by rw [← HV.out]; exact hk))
      have tg : Turns (fun k => k = og) (wr.alloc (.cells #[.int .i64 (at' rk 0).id] 3)) w4 := Turns.grown hg4 (fun k e => by cases e; rfl)
      have t4 : Turns (fun k => k = og) wr w4 := ((Turns.refl _ _).alloc _).trans tg
      have hk4 := hk.turns t4 (fun k e hf => by have := (hFt k hf).2; omega)
      refine (remove_head hk4 hpos).mono ?_
      rintro e w5 ⟨rfl, rv5, hk5, t5, hv5⟩
      go_wp2_with fail
      go_roundw
      case rel =>
        refine ⟨gs ++ [at' rk 0], remR rk 0, rv5, ?_, ?_, ?_, ?_, hk5, ?_, ?_⟩
        · simp
        · show _ = _
          rw [List.length_append, remR_len]
          simp
          omega
        · show _ = _
          rw [← HD.out, remR_len]
          obtain ⟨m, hm⟩ : ∃ m, rk.length = m + 1 := ⟨rk.length - 1, by omega⟩
          rw [hm]
          simp [drn]
        · rw [List.length_append, List.map_append]
          exact owns_turns ho4 t5 (fun k e hf => by simp [Value.ownBlock] at e; have := (hFt k hf).2; omega)
        · show _ = _
          rw [hv5, HV.out]
        · exact (ht.next t4 (fun k hk e => by omega)).next t5 (fun k hk e => by have := (hFt k e).1; omega)
      case measure => simp [lenOf]; omega
end Go.Proofs.Ythlnbnklhajilaa
