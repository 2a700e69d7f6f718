/- Order of the reference's heap, by its contract. -/
import Derived.Test.YthlnbnklhajilaaRefRem
import Derived.Test.YthlnbnklhajilaaRefTop
namespace Go.Proofs.Ythlnbnklhajilaa
open Go.RowKit Hp

/-- T has the entries of l, in their order. -/
structure SortedOf (l T : List Ent) : Prop where
  ord : T.Pairwise nb
  nd : T.Nodup
  mem : ∀ x, x ∈ T ↔ x ∈ l

/-- gs came out first, lr is left. -/
structure Part (l gs lr : List Ent) : Prop where
  ord : gs.Pairwise nb
  nd : gs.Nodup
  cross : ∀ g, g ∈ gs → ∀ x, x ∈ lr → nb g x ∧ g ≠ x
  mem : ∀ x, x ∈ l ↔ x ∈ gs ∨ x ∈ lr
  len : gs.length + lr.length = l.length

theorem Part.start (l : List Ent) : Part l [] l := ⟨List.Pairwise.nil, List.nodup_nil, (fun g hg => by cases hg), (fun x => by simp), by simp⟩

theorem Part.step {most : Nat} {l gs lr : List Ent} (h : Part l gs lr) (g : Hp.Good most lr) {b : Ent} {k : Nat} (hk : k < lr.length) (hb : b = at' lr k) (hbest : ∀ x, x ∈ lr → ahd x b = false) : Part l (gs ++ [b]) (cutAt lr k) := by
  have hbl : b ∈ lr := by rw [hb]; exact at_mem hk
  refine ⟨?_, ?_, ?_, ?_, ?_⟩
  · rw [List.pairwise_append]
    refine ⟨h.ord, List.pairwise_singleton _ _, ?_⟩
    intro x hx y hy
    simp only [List.mem_singleton] at hy
    subst hy
    exact (h.cross x hx y hbl).1
  · rw [List.nodup_append]
    refine ⟨h.nd, by simp, ?_⟩
    intro x hx y hy
    simp only [List.mem_singleton] at hy
    subst hy
    exact (h.cross x hx y hbl).2
  · intro x hx y hy
    rw [cutAt_mem g k hk] at hy
    rw [List.mem_append, List.mem_singleton] at hx
    rcases hx with hx | rfl
    · exact h.cross x hx y hy.1
    · refine ⟨hbest y hy.1, fun e => hy.2 ?_⟩
      rw [← hb, e]
  · intro x
    rw [h.mem x, List.mem_append, List.mem_singleton, cutAt_mem g k hk, ← hb]
    constructor
    · rintro (hx | hx)
      · exact .inl (.inl hx)
      · by_cases e : x.id = b.id
        · left; right; exact good_uniq g x hx b hbl e
        · right; exact ⟨hx, e⟩
    · rintro ((hx | rfl) | hx)
      · exact .inl hx
      · exact .inr hbl
      · exact .inr hx.1
  · rw [List.length_append, cutAt_len lr k hk]
    have := h.len
    simp
    omega

theorem Part.finish {l gs : List Ent} (h : Part l gs []) : SortedOf l gs := ⟨h.ord, h.nd, fun x => by rw [h.mem x]; simp⟩

theorem RP.sl {B : Nat} {w : World} {mb : Nat} {lv : Value} {most : Nat} {l : List Ent} (h : RP B w mb lv most l) : ∃ a c, lv = .slice a l.length c := by
  rcases h.form with ⟨rfl, rfl⟩ | ⟨g, cap, rfl, _, _⟩
  · exact ⟨none, 0, rfl⟩
  · exact ⟨_, _, rfl⟩

/-- The place of one that is there. -/
theorem findL_mem {most : Nat} {l : List Ent} (g : Hp.Good most l) {b : Ent} (hb : b ∈ l) : ∃ k, k < l.length ∧ findL l b.id = (k : Int) ∧ b = at' l k ∧ knB most b.id = true := by
  obtain ⟨j, hj, rfl⟩ := mem_at hb
  have h1 := g.lo j hj
  have h2 := g.hi j hj
  rcases findL_cases l (at' l j).id with ⟨_, hn⟩ | ⟨i, hi, he, hf, _⟩
  · exact absurd rfl (hn j hj)
  · have := g.nd i j hi hj he
    subst this
    exact ⟨i, hi, hf, rfl, by simp [knB]; omega⟩

theorem int_news (B : Nat) (w : World) (x : Int) (hB : B ≤ w.heap.size) : IntRow B (w.alloc (.cells #[.int .i64 x] 3)) (.slice (some ⟨w.heap.size, 0, none⟩) 1 1) [x] := lit_ints B w [x] hB (by unfold maxLen; simp)

theorem lenOf_row {B : Nat} {w : World} {v : Value} {l : List Int} (h : IntRow B w v l) : lenOf v = l.length := by
  obtain ⟨a, c, rfl, _⟩ := h.sl
  rfl

/-- What out owns is none of x's, and new. -/
def Apart (w : World) (v : Value) (xb : Nat) (lv : Value) : Prop := (∀ k, v.ownBlock = some k → ¬ FootR xb lv k ∧ w.heap.size ≤ k) ∧ ∀ k, FootR xb lv k → w.heap.size ≤ k

set_option maxHeartbeats 4000000 in
set_option maxRecDepth 100000 in
theorem rorder_any {B : Nat} {w : World} {mb most : Nat} {lv : Value} {l : List Ent} (h : RP B w mb lv most l) (hB : B ≤ w.heap.size) :
    Calls Try.prog 25 #[.pointer (some ⟨mb, 0, none⟩)] w fun e w' => ∃ v, e = .returned v ∧ ∃ T, SortedOf l T ∧ IntRow B w' v (T.map (·.id)) ∧ Turns (fun _ => False) w w' := by
  have hc0 := h.c0
  have hc1 := h.c1
  have hlen := h.len
  have hmb : mb < w.heap.size := (h.foot mb (.inl rfl)).2
  have n1 : EntRow B (w.alloc (.cells #[] 65)).drew (.slice (some ⟨w.heap.size, 0, none⟩) 0 0) [] := made_ents B w hB
  have Ta : Turns (fun _ => False) w (w.alloc (.cells #[] 65)).drew := ((Turns.refl _ w).alloc _).drew
  have s1 : EntSrc (w.alloc (.cells #[] 65)).drew lv l := (EntRow.src h.own).turns Ta
  have hl1 : l.length ≤ 100000 := by omega
  have hB2 : B ≤ (w.alloc (.cells #[] 65)).drew.heap.size := le_alloc _ hB
  obtain ⟨a0, c0, hlv⟩ : ∃ a c, lv = .slice a l.length c := by
    rcases h.form with ⟨rfl, rfl⟩ | ⟨g, cap, rfl, _, _⟩
    · exact ⟨none, 0, rfl⟩
    · exact ⟨_, _, rfl⟩
  subst hlv
  go_enter Try.func25, Try.ntmps25
  go_wp2_with fail
  go_region_held3 (fun w' => w'.cell? ⟨mb, 0, none⟩ = some (.int .i64 most) ∧ w'.cell? ⟨mb, 1, none⟩ = some (.slice a0 l.length c0)) (go_keep)
    (first | (refine step_copy_ents _ (by rfl) _ _ (by rfl) B w.heap.size (.slice a0 l.length c0) l (by rfl) (by rfl) n1 s1 hl1 hB2 ?_; intro g1 c1 w1 o1 gr1 at1; have T1 := app_turns' (Turns.refl _ w) gr1 (Nat.le_refl _); have hg1 := app_ge' at1 (Nat.le_refl _) (Nat.le_refl _); have z1 := T1.cell hc1 hmb (fun x => x); have z0 := T1.cell hc0 hmb (fun x => x)))
  go_wp2_with fail
  have k1 : B ≤ g1 ∧ g1 < w1.heap.size := World.ownsRow.lt o1 g1 rfl
  have hs1 := T1.size
  have hx : RP B (w1.alloc (.cells #[.int .i64 most, .slice (some ⟨g1, 0, none⟩) l.length c1] 45)) w1.heap.size (.slice (some ⟨g1, 0, none⟩) l.length c1) most l :=
    ⟨World.ownsRow.alloc o1 _, World.ownsRow_lit w1 #[.int .i64 most, .slice (some ⟨g1, 0, none⟩) l.length c1] 1 (by omega) (by unfold maxLen; omega) rfl, (fun e => by simp [Value.ownBlock] at e; omega), h.good, h.top⟩
  have Tx : Turns (fun _ => False) w (w1.alloc (.cells #[.int .i64 most, .slice (some ⟨g1, 0, none⟩) l.length c1] 45)) := T1.alloc _
  have hap : Apart w (.slice none 0 0) w1.heap.size (.slice (some ⟨g1, 0, none⟩) l.length c1) := by
    refine ⟨fun k e => by simp [Value.ownBlock] at e, ?_⟩
    intro k hk
    rcases hk with rfl | hk
    · exact hs1
    · simp [Value.ownBlock] at hk; omega
  generalize hxb : w1.heap.size = xb at *
  clear hxb hc0 hc1 s1 Ta n1 z0 z1
  go_loopw [4] (fun v wr => ∃ (gs lr : List Ent) (lvk : Value), IntRow B wr v (gs.map (·.id)) ∧ RP B wr xb lvk most lr ∧ Part l gs lr ∧ Apart w v xb lvk ∧ Turns (fun _ => False) w wr)
    (fun v _ => l.length - lenOf v)
  case atStart => exact ⟨[], l, _, World.ownsRow_nil _ _ _ _, hx, Part.start l, hap, Tx⟩
  case round =>
    obtain ⟨gs, lr, lvk, hv, hr, hp, ha, T⟩ := hrel
    clear hx Tx hap
    obtain ⟨ak, ck, rfl⟩ := hr.sl
    have hm := hr.c1
    have hlr := hr.len
    by_cases hz : lr = []
    · subst hz
      simp only [List.length_nil] at hm
      go_wp2_with fail
      go_ret
      exact ⟨_, rfl, gs, hp.finish, hv, T⟩
    · have hpos : 0 < lr.length := List.length_pos_iff.2 hz
      have hposI : (0 : Int) < (lr.length : Int) := by omega
      have hlv := lenOf_row hv
      rw [List.length_map] at hlv
      have HLV : Hid (lenOf _ = gs.length) := hlv
      have hpl := hp.len
      clear hz hlv
      go_wp2_with fail
      refine (rtop_some hr hpos).mono ?_
      rintro e w3 ⟨b, rfl, hbm, hbb, t3⟩
      have HBB : Hid (∀ x, x ∈ lr → ahd x b = false) := hbb
      clear hbb
      obtain ⟨k, hk, hf, hbe, hkn⟩ := findL_mem hr.good hbm
      have HF : Hid (findL lr b.id = (k : Int)) := hf
      have HBE : Hid (b = at' lr k) := hbe
      have HKN : Hid (knB most b.id = true) := hkn
      clear hf hbe hkn
      have T3 := T.trans t3
      have hB3 : B ≤ w3.heap.size := Nat.le_trans hB T3.size
      have hr3 := hr.turns t3 (fun _ h => h.elim)
      have hv3 := hv.turns t3 (fun _ _ h => h)
      have hn3 := int_news B w3 b.id hB3
      have hle : (gs.map (·.id)).length + [b.id].length ≤ 100000 := by simp; omega
      have F3 := hr3.foot
      go_wp2_with (at_builtin; refine wpList_append_ints _ (by rfl) _ _ rfl B B _ _ (gs.map (·.id)) [b.id] (by rfl) (by rfl) (hv3.turns ((Turns.refl (fun _ => False) _).alloc _) (fun _ _ h => h)) hn3 hle (le_alloc _ hB3) ?_; intro v4 w4 o4 g4 l4)
      have U4 : Turns (fun j => Value.ownBlock _ = some j) w3 w4 := ((Turns.refl _ w3).alloc (.cells #[.int .i64 b.id] 3)).trans (Turns.grown g4 (fun j e => e))
      have T4 := T3.next U4 (fun j hj e => by have := (ha.1 j e).2; omega)
      have hr4 := hr3.turns U4 (fun j e hf => (ha.1 j e).1 hf)
      have hB4 : B ≤ w4.heap.size := Nat.le_trans hB T4.size
      refine (rrem_ok b.id k hr4 HKN.out HF.out hk hB4).mono ?_
      rintro e w5 ⟨rfl, lv5, h5, t5, f5⟩
      have hs3 := T3.size
      have hs4 := T4.size
      have hsa : (w3.alloc (.cells #[.int .i64 b.id] 3)).heap.size = w3.heap.size + 1 := by simp
      have q4 : ∀ j, v4.ownBlock = some j → j ≠ xb ∧ w.heap.size ≤ j := by
        intro j hj
        rcases l4 with e | e
        · rw [hj] at e
          have := ha.1 j e.symm
          exact ⟨fun x => this.1 (.inl x), this.2⟩
        · rw [hj, hsa] at e
          have := (F3 xb (.inl rfl)).2
          simp only [Option.some.injEq] at e
          omega
      have Q5 : Apart w v4 xb lv5 := by
        refine ⟨fun j hj => ⟨fun hf => ?_, (q4 j hj).2⟩, fun j hj => ?_⟩
        · rcases hf with hf | hf
          · exact (q4 j hj).1 hf
          · have := f5 j hf
            have := (World.ownsRow.lt o4 j hj).2
            omega
        · rcases hj with rfl | hj
          · exact ha.2 _ (.inl rfl)
          · have := f5 j hj; omega
      have T5 := T4.next t5 (fun j hj e => by have := ha.2 xb (.inl rfl); omega)
      have r5 := o4.turns t5 (fun j hj e => (q4 j hj).1 e)
      have P5 := hp.step hr.good hk HBE.out HBB.out
      have hlv4 := lenOf_row o4
      have HLV4 : Hid (lenOf v4 = gs.length + 1) := by show _ = _; rw [hlv4]; simp
      clear hlv4
      go_wp2_with fail
      go_roundw
      case rel => exact ⟨gs ++ [b], cutAt lr k, lv5, by rw [List.map_append]; exact r5, h5, P5, Q5, T5⟩
      case measure =>
        have a1 := HLV.out
        have a2 := HLV4.out
        simp
        omega
end Go.Proofs.Ythlnbnklhajilaa
