/- All and Twin of a ring, by their contracts. -/
import Derived.Test.YtlegbdbepjcloaaApp
namespace Go.Proofs.Ytlegbdbepjcloaa
open Go.RowKit Go.Conc

/-- A row of which the first c have gone once round. -/
def round (row : List Int) (c : Nat) : List Int := row.drop c ++ row.take c
theorem round_zero (row : List Int) : round row 0 = row := by simp [round]
theorem round_all (row : List Int) : round row row.length = row := by simp [round]
theorem round_cut (row : List Int) (c : Nat) (h : c < row.length) : ∃ x rest, round row c = x :: rest ∧ round row (c + 1) = rest ++ [x] ∧ row.take (c + 1) = row.take c ++ [x] ∧ row[c]? = some x := by
  refine ⟨row[c], row.drop (c + 1) ++ row.take c, ?_, ?_, ?_, by simp [h]⟩
  · unfold round
    rw [List.drop_eq_getElem_cons h]; rfl
  · unfold round
    rw [List.take_add_one, List.append_assoc]; simp [h]
  · rw [List.take_add_one]; simp [h]
theorem round_len (row : List Int) (c : Nat) : (round row c).length = row.length := by
  simp [round]; omega

set_option maxHeartbeats 2000000 in
theorem all_any {B : Nat} {w : World} {rb c room : Nat} {row : List Int} (h : RP B w rb c room row) (hB : B ≤ w.heap.size) :
    Calls Try.prog 18 #[.pointer (some ⟨rb, 0, none⟩)] w fun e w' => ∃ v, e = .returned v ∧ IntRow B w' v row ∧ Hid (∀ k, v.ownBlock = some k → w.heap.size ≤ k) ∧ RP B w' rb c room row ∧ Turns (fun k => k = c) w w' := by
  have hlen := h.len
  have hmost := h.most
  go_enter Try.func18, Try.ntmps18
  go_wp2_with fail
  refine (len_any h).mono ?_
  rintro e w1 ⟨rfl, hw⟩
  subst w1
  go_wp2_with fail
  go_loopw [3, 8] (fun v i wr => ∃ k : Nat, i = .int .i64 k ∧ k ≤ row.length ∧ IntRow B wr v (row.take k) ∧ Hid (∀ j, v.ownBlock = some j → w.heap.size ≤ j) ∧ RP B wr rb c room (round row k) ∧ Turns (fun k => k = c) w wr) (fun _ i _ => row.length - (intOf i).toNat)
  case atStart => exact ⟨0, rfl, by omega, World.ownsRow_nil _ _ _ _, (fun k e => by simp [Value.ownBlock] at e), by rw [round_zero]; exact h, Turns.refl _ _⟩
  case round =>
    obtain ⟨k, rfl, hk, hi, HV, hr, T⟩ := hrel
    have hsz := T.size
    by_cases hkl : k < row.length
    · obtain ⟨x, rest, e1, e2, e3, _⟩ := round_cut row k hkl
      have HE2 : Hid (round row (k + 1) = rest ++ [x]) := e2
      have HE3 : Hid (row.take (k + 1) = row.take k ++ [x]) := e3
      have hrl : rest.length < room := by
        have := round_len row k
        rw [e1] at this; simp at this; omega
      rw [e1] at hr
      clear e1 e2 e3
      have b1 : (k : Int) < (row.length : Int) := by omega
      have hcl := h.c_lt
      go_wp2_with fail
      refine (pop_some x hr).mono ?_
      rintro e w2 ⟨rfl, hr2, t2⟩
      have T2 := T.trans t2
      have hi2 := hi.turns t2 (fun j e1 e2 => by have := HV.out j e1; omega)
      have htk : (row.take k).length ≤ 90000 := by rw [List.length_take]; omega
      have hB2 : B ≤ w2.heap.size := by have := T2.size; omega
      go_wp2_with (at_builtin; refine wpList_append_int _ (by rfl) _ _ rfl B u3 (row.take k) x w2 rfl (by rfl) w2.heap.size rfl (by rfl) hi2 htk hB2 ?_; intro g3 c3 w3 i3 t3 n3)
      have hr3 := hr2.turns t3 (fun j e1 e2 => by have h1 := HV.out j e1; have h2 := (h.foot j e2).2; omega)
      have T3 := T2.next t3 (fun j hj e1 => by have h1 := HV.out j e1; omega)
      refine (push_room x hr3 hrl).mono ?_
      rintro e w4 ⟨rfl, hr4, t4⟩
      have T4 := T3.trans t4
      go_wp2_with fail
      go_roundw
      case rel =>
        have hlo : ∀ j, (Value.slice (some ⟨g3, 0, none⟩) ((row.take k).length + 1) c3).ownBlock = some j → w.heap.size ≤ j := by
          intro j e
          simp [Value.ownBlock] at e
          have := T2.size
          rcases n3 with n3 | n3
          · exact HV.out j (by rw [n3, e])
          · omega
        refine ⟨k + 1, by go_num, by omega, ?_, ?_, ?_, T4⟩
        · rw [HE3.out]
          have := i3.turns t4 (fun j e1 e2 => by have h1 := hlo j e1; omega)
          rw [List.length_take, Nat.min_eq_left (by omega)] at this
          exact this
        · exact fun j e => hlo j (by simpa [Value.ownBlock] using e)
        · rw [HE2.out]; exact hr4
      case measure => simp [intOf]; omega
    · have hkk : k = row.length := by omega
      subst hkk
      have b1 : ¬ ((row.length : Nat) : Int) < (row.length : Int) := by omega
      rw [round_all] at hr
      rw [List.take_length] at hi
      go_wp2
      go_ret
      exact ⟨_, rfl, hi, HV, hr, T⟩

/-- What Twin leaves: another ring with the same row, and the old one as it was. -/
structure TwinOut (B : Nat) (w w' : World) (rb c room : Nat) (row : List Int) (rb' c' : Nat) : Prop where
  tw : RP B w' rb' c' room row
  old : RP B w' rb c room row
  tu : Turns (fun k => k = c) w w'
  lo : w.heap.size ≤ rb'
  lo2 : w.heap.size ≤ c'

set_option maxHeartbeats 2000000 in
theorem twin_any {B : Nat} {w : World} {rb c room : Nat} {row : List Int} (h : RP B w rb c room row) (hB : B ≤ w.heap.size) :
    Calls Try.prog 10 #[.pointer (some ⟨rb, 0, none⟩)] w fun e w' => ∃ rb', e = .returned (.pointer (some ⟨rb', 0, none⟩)) ∧ ∃ c', TwinOut B w w' rb c room row rb' c' := by
  have hlen := h.len
  have hmost := h.most
  have hc := h.c0
  have hf := h.foot
  have hmk := mk room hmost
  obtain ⟨s, r, hch⟩ := h.ch
  have hcap := fun ty => run_cap_chan (P := Try.prog) 44 ty Try.underlying44 hch
  simp only [goInt] at hcap
  have hn := rp_made B room w hB hmost
  have t0 : Turns (fun _ => False) w ((w.alloc (.chan room #[] false 0 0 false)).alloc (.cells #[.chan (some w.heap.size)] 46)) := ((Turns.refl _ _).alloc _).alloc _
  have hsz : ((w.alloc (.chan room #[] false 0 0 false)).alloc (.cells #[.chan (some w.heap.size)] 46)).heap.size = w.heap.size + 2 := by simp
  have h0 := h.keep t0
  go_enter Try.func10, Try.ntmps10
  go_wp2_with fail
  clear hmk hcap hch
  generalize hW : (w.alloc (.chan room #[] false 0 0 false)).alloc (.cells #[.chan (some w.heap.size)] 46) = W at *
  clear hW
  refine (all_any h0 (by omega)).mono ?_
  rintro e w1 ⟨v, rfl, hi, HV, h1, t1⟩
  have hn1 := hn.turns t1 (fun k e1 e2 => by rcases e2 with e2 | e2 <;> (have := (hf k (.inr e1)).2; omega))
  have T1 := (t0.mono (T := fun k => k = c) (fun _ _ x => x.elim)).trans t1
  obtain ⟨a, cv, rfl, fa⟩ := hi.sl
  go_wp2_with fail
  go_loopw [17] (fun i wr => ∃ k : Nat, i = .int .i64 k ∧ k ≤ row.length ∧ IntRow B wr (.slice a row.length cv) row ∧ RP B wr (w.heap.size + 1) w.heap.size room (row.take k) ∧ RP B wr rb c room row ∧ Turns (fun k => k = c) w wr) (fun i _ => row.length - (intOf i).toNat)
  case atStart => exact ⟨0, rfl, by omega, hi, by rw [List.take_zero]; exact hn1, h1, T1⟩
  case round =>
    clear hi fa hn1 h1 T1 t1 h0 hn t0
    obtain ⟨k, rfl, hk, hi, hn, ho, T⟩ := hrel
    by_cases hkl : k < row.length
    · obtain ⟨x, rest, _, _, e3, e4⟩ := round_cut row k hkl
      have HE3 : Hid (row.take (k + 1) = row.take k ++ [x]) := e3
      obtain ⟨a', c', e5, fa⟩ := hi.sl
      cases e5
      obtain ⟨g, rfl, hcell⟩ := fa k hkl
      have gx := hcell k hkl
      rw [show row.getD k 0 = x from by rw [List.getD_eq_getElem?_getD, e4]; rfl] at gx
      clear e3 e4 fa hcell
      have b1 : (k : Int) < (row.length : Int) := by omega
      have b2 : (0 : Int) ≤ (k : Int) := by omega
      go_wp2_with fail
      refine (push_room x hn (by rw [List.length_take]; omega)).mono ?_
      rintro e w2 ⟨rfl, hn2, t2⟩
      go_wp2_with fail
      go_roundw
      case rel =>
        refine ⟨k + 1, by go_num, by omega, hi.turns t2 (fun j e1 e2 => by have := HV.out j e1; omega), by rw [HE3.out]; exact hn2, ho.turns t2 (fun j e1 e2 => by have := (hf j e2).2; omega), T.next t2 (fun j h1 h2 => by omega)⟩
      case measure => simp [intOf]; omega
    · have hkk : k = row.length := by omega
      subst hkk
      have b1 : ¬ ((row.length : Nat) : Int) < (row.length : Int) := by omega
      rw [List.take_length] at hn
      go_wp2
      go_ret
      exact ⟨w.heap.size + 1, rfl, w.heap.size, ⟨hn, ho, T, by omega, by omega⟩⟩
end Go.Proofs.Ytlegbdbepjcloaa
