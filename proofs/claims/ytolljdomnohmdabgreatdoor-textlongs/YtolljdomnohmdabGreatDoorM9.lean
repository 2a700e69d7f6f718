/- A strings.Builder over several calls: what is written, what is told; how it stays. -/
import Derived.Shelf.Strings.BuilderK
import Derived.Test.YtolljdomnohmdabGreatDoorM7
namespace Go.Proofs.YtolljdomnohmdabGreatDoor
open Go.RowKit Go.Shelf

/-- A builder that this call has made: it holds these bytes. -/
def Bldr (b : Nat) (l : List UInt8) (w : World) : Prop := Lib.IsBuilderF 65 5 b b (Lib.byteCells l) w
/-- What a call leaves that writes into it: what is older, and what is no row of bytes. -/
structure KB (b : Nat) (w w' : World) : Prop where
  low : Below b w w'
  oth : Lib.OthersKept 5 (some b) w w'
theorem KB.refl (b : Nat) (w : World) : KB b w w := ⟨Below.refl _ _, Lib.OthersKept.refl _ _ _⟩
theorem KB.trans {b : Nat} {x y z : World} (h : KB b x y) (k : KB b y z) : KB b x z := ⟨h.low.trans k.low, h.oth.trans k.oth⟩
theorem KB.kept {b : Nat} {w w' : World} (h : Kept w w') (hb : b ≤ w.heap.size) : KB b w w' := by
  refine ⟨h.mono hb, fun k o hk _ _ => ?_⟩
  rw [h.5 k (Array.getElem?_eq_some_iff.1 hk).1]
  exact hk
theorem byteCells_app (a b : List UInt8) : Lib.byteCells (a ++ b) = Lib.byteCells a ++ Lib.byteCells b := by simp [Lib.byteCells]
theorem strCells_B (a : List UInt8) : Lib.strCells (B a) = Lib.byteCells a := rfl
theorem bld_write (b : Nat) (l s : List UInt8) (w : World) (h : Bldr b l w) (hlen : l.length + s.length ≤ 140737488355328) (hBw : b ≤ w.heap.size) :
    Calls Tryz.prog 33 #[.pointer (some ⟨b, 0, none⟩), .string (B s)] w fun e w' => e = .returned (.tuple #[.int .i64 (B s).size, .nilIface]) ∧ Bldr b (l ++ s) w' ∧ KB b w w' := by
  refine (Any.Builder_WriteString_k (ρ := Tryz.lays156_ren) { Tryz.lays156 with } Tryz.Builder_Extra_156 b b (Lib.byteCells l) (B s) w h (by rw [Lib.byteCells_length]; show _ + s.toArray.size ≤ _; simpa using hlen) hBw).mono ?_
  rintro e w' ⟨rfl, h1, h2, h3⟩
  rw [strCells_B, ← byteCells_app] at h1
  exact ⟨rfl, .inr h1, h2, h3⟩
theorem bld_tell (b : Nat) (l : List UInt8) (w : World) (h : Bldr b l w) (hBw : b ≤ w.heap.size) :
    Calls Tryz.prog 23 #[.pointer (some ⟨b, 0, none⟩)] w fun e w' => e = .returned (.string (B l)) ∧ Below b w w' := by
  refine (Any.Builder_String_any_k (ρ := Tryz.lays156_ren) { Tryz.lays156 with } Tryz.Builder_Extra_156 b b l w h hBw).mono ?_
  rintro e w' h1
  exact ⟨h1.1, h1.2.2.1⟩
theorem rowF_kept {base : Nat} {e : TypeId} {size : Nat} {v : Value} {n : Nat} {xs : List Value} {w w' : World} (h : w.ownsRowF base e size v n xs) (k : Kept w w') : w'.ownsRowF base e size v n xs := by
  refine ⟨h.1, ?_⟩
  rcases h.2 with hn | ⟨g, cap, cur, fz, rfl, hb, hg, rest⟩
  · exact .inl hn
  · refine .inr ⟨g, cap, cur, fz, rfl, hb, ?_, rest⟩
    rw [k.5 g (Array.getElem?_eq_some_iff.1 hg).1]
    exact hg
theorem bld_at_kept {b : Nat} {p : Value} {bs : List Value} {w w' : World} (h : Lib.BuilderAtF 65 5 b b p bs w) (k : Kept w w') : Lib.BuilderAtF 65 5 b b p bs w' := by
  obtain ⟨h1, v, h2, h3, h4⟩ := h
  exact ⟨h1, v, by rw [k.5 b (Array.getElem?_eq_some_iff.1 h2).1]; exact h2, rowF_kept h3 k, h4⟩
theorem bld_kept {b : Nat} {l : List UInt8} {w w' : World} (h : Bldr b l w) (k : Kept w w') : Bldr b l w' := h.imp (fun h => bld_at_kept h k) (fun h => bld_at_kept h k)
theorem bld_new (w : World) : Bldr w.heap.size [] (w.alloc (.cells #[.pointer none, .slice none 0 0] 65)) := Lib.IsBuilderF.of (Lib.fresh_isBuilder 65 5 w)
/-- A block of the call's own that is no builder stays. -/
theorem KB.box {b Bd : Nat} {e : TypeId} {q : Nat} {cs : List Value} {w w' : World} (h : KB b w w') (hx : Box Bd w e q cs) (hq : q ≠ b) (he : e ≠ 5) : Box Bd w' e q cs := by
  refine ⟨hx.1, ?_⟩
  rcases hx.2 with hn | ⟨g, cap, cur, hv, hb, hgg, rest⟩
  · exact .inl hn
  · cases hv
    refine .inr ⟨q, 1, cur, rfl, hb, ?_, rest⟩
    refine h.oth q _ hgg (fun e => hq (Option.some.inj e)) (fun c fz e => ?_)
    cases e
    exact he rfl
theorem bld_lt {b : Nat} {l : List UInt8} {w : World} (h : Bldr b l w) : b < w.heap.size := by
  rcases h with ⟨_, v, h2, _⟩ | ⟨_, v, h2, _⟩
  · exact (Array.getElem?_eq_some_iff.1 h2).1
  · exact (Array.getElem?_eq_some_iff.1 h2).1
end Go.Proofs.YtolljdomnohmdabGreatDoor
namespace Go.Proofs.YtolljdomnohmdabGreatDoor
open Go.RowKit Go.Shelf

/-- Words that lie in a row, joined. -/
theorem join_lit (g : Nat) (ws : List (List UInt8)) (w : World) (hc : ∀ j x, ws[j]? = some x → w.cell? ⟨g, j, none⟩ = some (.string (B x))) (hg : g < w.heap.size) (hn : ws.length ≤ 1000) (hl : (joinW ws).length ≤ 1000000000) :
    Calls Tryz.prog 34 #[.slice (some ⟨g, 0, none⟩) ws.length ws.length, .string ⟨#[32]⟩] w fun e w' => e = .returned (.string (B (joinW ws))) ∧ Kept w w' := by
  have := Tryz.strings_Join g 0 ws.length (ws.map B) ⟨#[32]⟩ w ?_ hg (by rw [List.length_map]; omega) (by rw [List.length_map]; exact Nat.le_refl _) ?_
  · rw [List.length_map, List.map_map] at this
    rw [show ((fun x : ByteArray => x.data.toList) ∘ B) = id from rfl, List.map_id] at this
    rw [show (⟨#[32]⟩ : ByteArray).data.toList = [32] from rfl, join_W] at this
    exact this
  · intro j x hj
    rw [Nat.zero_add]
    rw [List.getElem?_map] at hj
    obtain ⟨y, hy, rfl⟩ := Option.map_eq_some_iff.1 hj
    exact hc j y hy
  · rw [List.map_map, show ((fun x : ByteArray => x.data.toList) ∘ B) = id from rfl, List.map_id, show (⟨#[32]⟩ : ByteArray).data.toList = [32] from rfl, join_W]
    omega
/-- One line. -/
def wlD (ws : List (List UInt8)) : List UInt8 := joinW ws ++ [10]
set_option maxHeartbeats 2000000 in
theorem wline_any (b g n : Nat) (ws : List (List UInt8)) (l : List UInt8) (w : World) (hb : Bldr b l w) (hB : b ≤ w.heap.size) (hc : ∀ j x, ws[j]? = some x → w.cell? ⟨g, j, none⟩ = some (.string (B x))) (hg : g < w.heap.size) (hnn : n = ws.length) (hn : ws.length ≤ 1000) (hl : l.length + (joinW ws).length ≤ 100000000) :
    Calls Tryz.prog 19 #[.pointer (some ⟨b, 0, none⟩), .slice (some ⟨g, 0, none⟩) n n] w fun e w' => e = .returned (.tuple #[]) ∧ Bldr b (l ++ wlD ws) w' ∧ KB b w w' := by
  subst hnn
  have HB : Hid (Bldr b l w) := hb
  have hj := join_lit g ws w hc hg hn (by omega)
  obtain ⟨q, hq⟩ : ∃ q, joinW ws = q := ⟨_, rfl⟩
  have HW : Hid (wlD ws = q ++ [10]) := by show _ = _; unfold wlD; rw [hq]
  rw [hq] at hj hl
  clear hb hc hq
  go_enter Tryz.func19, Tryz.ntmps19
  go_wp2_with fail
  refine hj.mono ?_
  rintro e w1 ⟨rfl, K1⟩
  have h1 := bld_write b l q w1 (bld_kept HB.out K1) (by omega) (Nat.le_trans hB K1.size)
  have KB1 : KB b w w1 := KB.kept K1 hB
  clear hj
  go_wp2_with fail
  refine h1.mono ?_
  rintro e w2 ⟨rfl, b2, K2⟩
  have HB2 : Hid (Bldr b (l ++ q) w2) := b2
  have KB2 : KB b w w2 := KB1.trans K2
  have h2 := bld_write b (l ++ q) [10] w2 HB2.out (by simp; omega) (Nat.le_trans hB KB2.low.size)
  clear h1 b2 K2
  go_wp2_with fail
  refine h2.mono ?_
  rintro e w3 ⟨rfl, b3, K3⟩
  have HB3 : Hid (Bldr b (l ++ wlD ws) w3) := by
    rw [HW.out, ← List.append_assoc]
    exact b3
  have KB3 : KB b w w3 := KB2.trans K3
  clear h2 b3 K3
  go_wp2_with fail
  go_end0
  exact ⟨rfl, HB3.out, KB3⟩
end Go.Proofs.YtolljdomnohmdabGreatDoor
