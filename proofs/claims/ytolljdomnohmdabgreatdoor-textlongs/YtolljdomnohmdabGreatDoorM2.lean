/- How texts and rows of texts lie in memory, what a call may have turned, and what the library's variables hold. -/
import Derived.WalkKit
import Derived.WalkSpells
import Derived.WalkSmall
import Derived.WalkLawsBesides
import Derived.Deep.QuietTactic
import Derived.BigRegion
import Derived.BigQuiet
import Derived.Maps.AppendAt
import Derived.Lib.SliceRun
import Derived.Deep.RegionHeld3
import Derived.Deep.RegionLaw
import Derived.Laws.DeepStrings4
import Derived.Laws.Concat
import Derived.Test.YtolljdomnohmdabGreatDoorRows
import Derived.Test.YtolljdomnohmdabGreatDoorShelf
import Derived.Test.YtolljdomnohmdabGreatDoorM1
import Derived.Test.YtolljdomnohmdabGreatDoorOpT
namespace Go.Proofs.YtolljdomnohmdabGreatDoor
open Go.RowKit

/-- Nothing of what was there has turned. -/
def Kept (w w' : World) : Prop := Below w.heap.size w w'
theorem Kept.refl (w : World) : Kept w w := Below.refl _ _
theorem Kept.size {a b : World} (h : Kept a b) : a.heap.size ≤ b.heap.size := Below.size h
theorem Kept.trans {a b c : World} (h : Kept a b) (k : Kept b c) : Kept a c := Below.trans h (Below.mono k (Below.size h))
theorem Kept.drewN {a w : World} (h : Kept a w) (n : Nat) : Kept a (w.drewN n) := ⟨h.1, h.2, h.3, h.4, h.5⟩
theorem Kept.drew {a w : World} (h : Kept a w) : Kept a w.drew := ⟨h.1, h.2, h.3, h.4, h.5⟩
theorem Kept.alloc {a w : World} (h : Kept a w) (o : Obj) : Kept a (w.alloc o) := h.trans ((Below.refl _ w).alloc (Nat.le_refl _) o)
theorem cell_lt {w : World} {p : Addr} {v : Value} (h : w.cell? p = some v) : p.block < w.heap.size := by
  by_cases hlt : p.block < w.heap.size
  · exact hlt
  · have : w.heap[p.block]? = none := Array.getElem?_eq_none (by omega)
    simp [World.cell?, this] at h
theorem Kept.cell {w w' : World} (t : Kept w w') {p : Addr} {v : Value} (h : w.cell? p = some v) : w'.cell? p = some v := (Below.cell t (cell_lt h)).trans h

/-- A text as a string. -/
def B (l : List UInt8) : ByteArray := ⟨l.toArray⟩
theorem B_list (l : List UInt8) : (B l).data.toList = l := rfl
theorem B_size (l : List UInt8) : (B l).size = l.length := by simp [B, ByteArray.size]
theorem B_of (s : ByteArray) : B s.data.toList = s := by cases s; rfl
theorem B_inj {a b : List UInt8} (h : B a = B b) : a = b := by
  have := congrArg (fun s => s.data.toList) h
  simpa [B] using this

theorem toList_of (s : ByteArray) : s.toList = s.data.toList := Lib.toList_data s
/-- The byte at a place of a text. -/
theorem byte_get (s : ByteArray) (k : Nat) (h : k < s.size) : ∃ c : UInt8, s[k] = c ∧ s.data.toList[k]? = some c ∧ s.data.toList.drop k = c :: s.data.toList.drop (k + 1) ∧ s.data.toList.take (k + 1) = s.data.toList.take k ++ [c] := by
  have hl : k < s.data.toList.length := by rw [← Lib.size_eq]; exact h
  refine ⟨s[k], rfl, ?_, ?_, ?_⟩
  · rw [List.getElem?_eq_getElem hl]; rfl
  · rw [List.drop_eq_getElem_cons hl]; rfl
  · rw [List.take_add_one, List.getElem?_eq_getElem hl]; rfl
end Go.Proofs.YtolljdomnohmdabGreatDoor
namespace Go.Proofs.YtolljdomnohmdabGreatDoor
open Go.RowKit

theorem within_false {lo hi : Nat} {l : List UInt8} {k : Nat} {c : UInt8} (h : l[k]? = some c) (hc : c.toNat < lo ∨ hi < c.toNat) : within lo hi l = false := by
  rw [Bool.eq_false_iff]
  intro e
  have := ((within_iff _ _ _).1 e).2 c (List.mem_of_getElem? h)
  omega
theorem within_all {lo hi : Nat} {l : List UInt8} (h : ∀ j c, j < l.length → l[j]? = some c → lo ≤ c.toNat ∧ c.toNat ≤ hi) : within lo hi l = !l.isEmpty := by
  unfold within
  have : l.all (fun c => decide (lo ≤ c.toNat) && decide (c.toNat ≤ hi)) = true := by
    rw [List.all_eq_true]
    intro c hc
    obtain ⟨j, hj, e⟩ := List.getElem_of_mem hc
    have := h j c hj (by rw [List.getElem?_eq_getElem hj, e])
    simp [this]
  rw [this, Bool.and_true]

set_option maxHeartbeats 400000 in
theorem within_any (s : ByteArray) (lo hi : Nat) (hs : s.size ≤ 1000000) (w : World) :
    Calls Tryz.prog 79 #[.string s, .int .u8 lo, .int .u8 hi] w fun e w' => e = .returned (.bool (within lo hi s.data.toList)) ∧ w' = w := by
  obtain ⟨em, he⟩ : ∃ b, s.toList.isEmpty = b := ⟨_, rfl⟩
  have HE : Hid (s.data.toList.isEmpty = em) := by show _ = _; rw [← toList_of]; exact he
  go_enter Tryz.func79, Tryz.ntmps79
  go_wp2_with fail
  go_step3
  go_wp2_with fail
  go_step3
  go_wp2_with fail
  clear he
  go_loopw [7, 13] (fun b i wr => ∃ k : Nat, b = .bool (!em) ∧ i = .int .i64 k ∧ k ≤ s.size ∧ Hid (∀ j c, j < k → s.data.toList[j]? = some c → lo ≤ c.toNat ∧ c.toNat ≤ hi) ∧ wr = w) (fun _ i _ => s.size - (intOf i).toNat)
  case atStart => exact ⟨0, rfl, rfl, by omega, fun j c hj => by omega, rfl⟩
  case round =>
    obtain ⟨k, rfl, rfl, hk, HA, hw⟩ := hrel
    subst wr
    by_cases hkl : k < s.size
    · have b1 : (k : Int) < (s.size : Int) := by omega
      have b2 : (0 : Int) ≤ (k : Int) := by omega
      obtain ⟨c, e1, e2, _, _⟩ := byte_get s k hkl
      have HG : Hid (s.data.toList[k]? = some c) := e2
      clear e2
      by_cases h1 : c.toNat < lo
      · have t1 : decide (c.toNat < lo) = true := decide_eq_true h1
        have HW : Hid (within lo hi s.data.toList = false) := within_false HG.out (.inl h1)
        go_wp2
        rw [Exit.noGoto_ret]
        go_ret
        rw [HW.out]
        exact ⟨rfl, rfl⟩
      · have t1 : decide (c.toNat < lo) = false := decide_eq_false h1
        by_cases h2 : hi < c.toNat
        · have t2 : decide (hi < c.toNat) = true := decide_eq_true h2
          have HW : Hid (within lo hi s.data.toList = false) := within_false HG.out (.inr h2)
          go_wp2
          rw [Exit.noGoto_ret]
          go_ret
          rw [HW.out]
          exact ⟨rfl, rfl⟩
        · have t2 : decide (hi < c.toNat) = false := decide_eq_false h2
          go_wp2
          go_roundw
          case rel =>
            refine ⟨k + 1, rfl, by go_num, by omega, ?_, (by first | rfl | trivial)⟩
            intro j d hj hd
            by_cases hjk : j = k
            · rw [hjk, HG.out] at hd
              cases hd
              omega
            · exact HA.out j d (by omega) hd
          case measure => simp [intOf]; omega
    · have b1 : ¬ (k : Int) < (s.size : Int) := by omega
      have hkk : k = s.size := by omega
      have HW : Hid (within lo hi s.data.toList = !em) := by
        show _ = _
        rw [← HE.out]
        exact within_all (fun j c hj hc => HA.out j c (by rw [hkk, Lib.size_eq]; exact hj) hc)
      clear hkk
      go_wp2
      go_ret
      rw [HW.out]
      exact ⟨rfl, rfl⟩

theorem isWord_any (s : ByteArray) (hs : s.size ≤ 1000000) (w : World) :
    Calls Tryz.prog 56 #[.string s] w fun e w' => e = .returned (.bool (within 33 126 s.data.toList)) ∧ w' = w := by
  go_enter Tryz.func56, Tryz.ntmps56
  go_wp2_with fail
  refine (within_any s 33 126 hs w).mono ?_
  rintro e w1 ⟨rfl, hw⟩
  subst w1
  go_wp2_with fail
  go_ret
  exact ⟨rfl, rfl⟩

set_option maxHeartbeats 400000 in
theorem clone_any (s : ByteArray) (hs : s.size ≤ 1000000) (w : World) :
    Calls Tryz.prog 28 #[.string s] w fun e w' => e = .returned (.string s) ∧ Kept w w' := by
  go_enter Tryz.func28, Tryz.ntmps28
  go_wp2_with fail
  refine (Tryz.stringslite_Clone s w (by omega)).mono ?_
  rintro e w1 ⟨rfl, k1⟩
  go_wp2_with fail
  go_ret
  exact ⟨rfl, k1⟩
end Go.Proofs.YtolljdomnohmdabGreatDoor
namespace Go.Proofs.YtolljdomnohmdabGreatDoor
open Go.RowKit

/-- A row of the table of the Kinds, cell by cell. -/
def shV (s : ShapeD) : List Value := [.string (B s.word), .bool s.hasN, .bool s.hasV, .bool s.waits, .bool s.picks, .int .i64 s.least, .int .i64 s.most]
/-- What the library's variables and the table of the Kinds hold. -/
structure Rdy (w : World) : Prop where
  m : ∃ m, w.cell? ⟨1, 0, none⟩ = some (.int .i64 m)
  tab : Lib.TabIs Tryz.prog w "internal/strconv.uint64pow10" .u64 Lib.pow10Tab
  er : ∃ tp p, w.var? Tryz.prog "strconv.ErrRange" = some #[.iface tp p]
  sh : ∀ k, k ≤ 9 → ∀ i v, (shV (shapeOf k))[i]? = some v → w.cell? ⟨0, k * 7 + i, none⟩ = some v

theorem gTab : Tryz.prog.globalNamed "internal/strconv.uint64pow10" = some 2 := by kernel_rfl
theorem gErr : Tryz.prog.globalNamed "strconv.ErrRange" = some 6 := by kernel_rfl
theorem var_lt {w : World} {n : String} {g : Nat} {cs : Array Value} (hg : Tryz.prog.globalNamed n = some g) (h : w.var? Tryz.prog n = some cs) : g < w.heap.size := by
  by_cases hl : g < w.heap.size
  · exact hl
  · have : w.heap[g]? = none := Array.getElem?_eq_none (by omega)
    simp [World.var?, hg, this] at h
theorem Rdy.kept {w w' : World} (h : Rdy w) (k : Kept w w') : Rdy w' := by
  refine ⟨?_, ?_, ?_, fun j hj i v hv => k.cell (h.sh j hj i v hv)⟩
  · obtain ⟨m, hm⟩ := h.m
    exact ⟨m, k.cell hm⟩
  · exact var?_below k gTab (var_lt gTab h.tab) h.tab
  · obtain ⟨tp, p, hv⟩ := h.er
    exact ⟨tp, p, var?_below k gErr (var_lt gErr hv) hv⟩

def strV (l : List UInt8) : Value := .string (B l)

/-- What a slice of n texts shows. -/
def At (w : World) (a : Option Addr) (n : Nat) (l : List (List UInt8)) : Prop := l.length = n ∧ ∀ j, j < n → ∃ b f, a = some ⟨b, f, none⟩ ∧ w.cell? ⟨b, f + j, none⟩ = some (.string (B (l.getD j [])))
theorem At.kept {w w' : World} {a : Option Addr} {n : Nat} {l : List (List UInt8)} (h : At w a n l) (t : Kept w w') : At w' a n l := by
  refine ⟨h.1, fun j hj => ?_⟩
  obtain ⟨b, f, e, hc⟩ := h.2 j hj
  exact ⟨b, f, e, t.cell hc⟩
theorem At.none (w : World) : At w none 0 [] := ⟨rfl, fun j hj => by omega⟩

/-- A row of texts that the call owns. -/
def StrRow (base : Nat) (w : World) (v : Value) (l : List (List UInt8)) : Prop := w.ownsRow base 9 1 v l.length (l.map strV)
theorem StrRow.at {base : Nat} {w : World} {v : Value} {l : List (List UInt8)} (h : StrRow base w v l) : ∃ a c, v = .slice a l.length c ∧ At w a l.length l := by
  rcases h.2 with ⟨h1, h2⟩ | ⟨g, cap, cur, h1, _⟩
  · refine ⟨Option.none, 0, by rw [h1, h2], rfl, ?_⟩
    intro i hi; omega
  · refine ⟨some ⟨g, 0, Option.none⟩, cap, h1, rfl, ?_⟩
    intro j hj
    refine ⟨g, 0, rfl, ?_⟩
    have h' := h
    unfold StrRow at h'
    rw [h1] at h'
    rw [Nat.zero_add, h'.cellAt j (by omega), List.getElem?_map]
    simp [hj, strV]
theorem StrRow.nil (base : Nat) (w : World) : StrRow base w (.slice Option.none 0 0) [] := World.ownsRow_nil _ _ _ _
theorem own_kept {w w' : World} {base : Nat} {e : TypeId} {size : Nat} {v : Value} {n : Nat} {xs : List Value} (h : w.ownsRow base e size v n xs) (t : Kept w w') : w'.ownsRow base e size v n xs := by
  refine ⟨h.1, ?_⟩
  rcases h.2 with hn | ⟨g, cap, cur, rfl, hb, hgg, rest⟩
  · exact .inl hn
  · refine .inr ⟨g, cap, cur, rfl, hb, ?_, rest⟩
    rw [t.5 g (Array.getElem?_eq_some_iff.1 hgg).1]
    exact hgg
theorem StrRow.kept {base : Nat} {w w' : World} {v : Value} {l : List (List UInt8)} (h : StrRow base w v l) (t : Kept w w') : StrRow base w' v l := own_kept h t
theorem strs_ones (l : List (List UInt8)) : ∀ u ∈ l.map strV, u.oneCell' = true := by
  intro u hu
  simp only [List.mem_map] at hu
  obtain ⟨e, _, rfl⟩ := hu
  rfl
theorem drewN_add (w : World) (a b : Nat) : (w.drewN a).drewN b = w.drewN (a + b) := by simp [World.drewN, Nat.add_assoc]
theorem le_alloc {b0 : Nat} {w : World} (o : Obj) (h : b0 ≤ w.heap.size) : b0 ≤ (w.alloc o).heap.size := by
  have : (w.alloc o).heap.size = w.heap.size + 1 := by simp
  omega
theorem own_form {w : World} {base : Nat} {e : TypeId} {size : Nat} {v : Value} {n : Nat} {xs : List Value} (h : w.ownsRow base e size v n xs) (hv : v ≠ .slice Option.none 0 0) : ∃ g cap, v = .slice (some ⟨g, 0, Option.none⟩) n cap := by
  rcases h.2 with ⟨h1, _⟩ | ⟨g, cap, cur, h1, _⟩
  · exact absurd h1 hv
  · exact ⟨g, cap, h1⟩

theorem info9 : (Tryz.prog.info? 9).map (fun i => (i.zero, i.size, i.bytes)) = some (some (.string ⟨#[]⟩), 1, 16) := by kernel_rfl

theorem below_grown {base : Nat} {w w' : World} {v : Value} {n : Nat} {e : TypeId} {size : Nat} {xs : List Value} (hg : w.grownBy w' v.ownBlock) (hv : w.ownsRow base e size v n xs) (hB : base ≤ w.heap.size) : Below base w w' :=
  ⟨hg.os, hg.tape, hg.output, hg.size, fun k hk => hg.block k (by omega) (fun e => by have := (hv.lt k e.symm).1; omega)⟩

/-- One text behind a row of texts. -/
theorem wpList_append_str (w : World) {ops : Array Oper} {rest : List Oper} {o : Oper} {a : Act} {Q : Exit → Act → World → Prop} (hw : Region.wanted o (yielded ops a.tmps) = true) (s x : Operand)
    (ho : o.op = .call { callee := .builtin .append, args := #[s, x], argTypes := #[49, 49] })
    (base : Nat) (v1 : Value) (l1 : List (List UInt8)) (t : List UInt8) (tx : ByteArray) (htx : tx = B t) (W : World) (hw1 : w = W.alloc (.cells #[.string tx] 9)) (hs : a.eval s = v1) (nb : Nat) (hnb : nb = W.heap.size) (hx : a.eval x = .slice (some ⟨nb, 0, none⟩) 1 1) (h1 : StrRow base W v1 l1) (hl : l1.length ≤ 1000000) (hB : base ≤ W.heap.size)
    (h : ∀ g cap w', StrRow base w' (.slice (some ⟨g, 0, none⟩) (l1.length + 1) cap) (l1 ++ [t]) → Below base W w' → wpList Tryz.prog ops Q rest (a.put o.dst (.slice (some ⟨g, 0, none⟩) (l1.length + 1) cap)) w') :
    wpList Tryz.prog ops Q (o :: rest) a w := by
  subst hw1
  subst hnb
  subst htx
  refine wpList_step fun K hK => ?_
  rw [if_pos hw]
  obtain ⟨i, hi, hz0, hz1, hz2⟩ := info_parts info9
  have hc : ∀ j u, ([t].map strV)[j]? = some u → (W.alloc (.cells #[.string (B t)] 9)).cell? (Addr.add ⟨W.heap.size, 0, none⟩ j) = some u := by
    intro j u hu
    rw [Addr.add_lit, Nat.zero_add, World.cell?_alloc_at _ _ _ _ rfl]
    simpa [strV] using hu
  have h1' : (W.alloc (.cells #[.string (B t)] 9)).ownsRow base 9 1 v1 l1.length (l1.map strV) := World.ownsRow.alloc h1 _
  have hB' := le_alloc (.cells #[.string (B t)] 9) hB
  obtain ⟨v', w', hr, k1, k2, k3, k4⟩ := run_append_own_at (P := Tryz.prog) (W.alloc (.cells #[.string (B t)] 9)) base 49 o.type 9 i _ 1 16 Tryz.underlying49 hi hz0 hz1 hz2 rfl (by omega) _ l1.length (l1.map strV) h1' ⟨W.heap.size, 0, none⟩ 1 1 ([t].map strV) (by simp) hc (strs_ones [t]) (by unfold maxLen; omega) (by omega) hB'
  obtain ⟨g, cap, rfl⟩ := own_form k1 (fun e => by have := k3.1 e; have := this.2; omega)
  unfold Oper.wp
  simp [execOp, ho, resolve, invoke, builtin, hs, hx, hr, Result.andThen]
  refine hK _ _ (h g cap w' ?_ ?_)
  · unfold StrRow
    rw [List.length_append, List.map_append]
    exact k1
  · exact ((Below.refl _ W).alloc hB _).trans (below_grown k2 h1' hB')

/-- Texts that stand as they are written. -/
theorem lit_strs (w : World) (l : List (List UInt8)) (o : Array Value) (ho : o = (l.map strV).toArray) : At (w.alloc (.cells o 9)) (some ⟨w.heap.size, 0, none⟩) l.length l := by
  subst ho
  refine ⟨rfl, fun j hj => ⟨_, 0, rfl, ?_⟩⟩
  rw [Nat.zero_add, World.cell?_alloc_at _ _ _ _ rfl]
  simp [hj, strV]
end Go.Proofs.YtolljdomnohmdabGreatDoor
namespace Go.Proofs.YtolljdomnohmdabGreatDoor
open Go.RowKit

theorem B_empty {l : List UInt8} : (B l).toList.isEmpty = l.isEmpty := by rw [toList_of, B_list]
theorem B_eq (a b : List UInt8) : ((B a).toList == (B b).toList) = (a == b) := by rw [toList_of, toList_of, B_list, B_list]

set_option maxHeartbeats 1000000 in
theorem cut_hit (c : UInt8) (a b : List UInt8) (hn : c ∉ a) (w : World) (hr : Rdy w) (hl : (a ++ c :: b).length ≤ 1000000) :
    Calls Tryz.prog 27 #[.string (B (a ++ c :: b)), .string ⟨#[c]⟩] w fun e w' => e = .returned (.tuple #[.string (B a), .string (B b), .bool true]) ∧ ∃ n, w' = w.drewN n := by
  obtain ⟨m, hm⟩ := hr.m
  have := Tryz.strings_Cut (B (a ++ c :: b)) ⟨#[c]⟩ m w (by rw [B_size]; omega) hm
  have e : Lib.cut (B (a ++ c :: b)).data.toList (⟨#[c]⟩ : ByteArray).data.toList = (a, b, true) := by
    rw [B_list]
    show Lib.cut (a ++ c :: b) [c] = _
    rcases cut_one c (a ++ c :: b) with ⟨a', b', e1, e2, e3⟩ | ⟨e1, _⟩
    · rw [e3]
      have ha : a = a' := by
        clear this hl hm e3
        induction a generalizing a' with
        | nil => cases a' with
          | nil => rfl
          | cons x y => simp at e1; rw [e1.1] at e2; simp at e2
        | cons x a ih => cases a' with
          | nil => simp at e1; rw [e1.1] at hn; simp at hn
          | cons x' a' =>
            simp at e1
            rw [e1.1, ih (fun h => hn (by simp [h])) a' (by simp [e1.2]) (fun h => e2 (by simp [h]))]
      subst ha
      have := List.append_cancel_left e1
      simp at this
      rw [this]
    · simp at e1
  rw [e] at this
  exact this
theorem cut_miss (c : UInt8) (l : List UInt8) (hn : c ∉ l) (w : World) (hr : Rdy w) (hl : l.length ≤ 1000000) :
    Calls Tryz.prog 27 #[.string (B l), .string ⟨#[c]⟩] w fun e w' => e = .returned (.tuple #[.string (B l), .string (B []), .bool false]) ∧ ∃ n, w' = w.drewN n := by
  obtain ⟨m, hm⟩ := hr.m
  have := Tryz.strings_Cut (B l) ⟨#[c]⟩ m w (by rw [B_size]; omega) hm
  have e : Lib.cut (B l).data.toList (⟨#[c]⟩ : ByteArray).data.toList = (l, [], false) := by
    rw [B_list]
    show Lib.cut l [c] = _
    rcases cut_one c l with ⟨a', b', e1, e2, e3⟩ | ⟨_, e2⟩
    · rw [e1] at hn; simp at hn
    · exact e2
  rw [e] at this
  exact this
/-- A text's length, of a slot. -/
def strLen : Value → Nat
  | .string s => s.size
  | _ => 0

end Go.Proofs.YtolljdomnohmdabGreatDoor
namespace Go.Proofs.YtolljdomnohmdabGreatDoor
open Go.RowKit

/-- The error of Split; what it tells. -/
def splitE (o : Option (List (List UInt8))) : Int := if o.isSome then 0 else 2
def splitR (o : Option (List (List UInt8))) : List (List UInt8) := o.getD []
/-- How much is left of a loop that goes on as long as m says so. -/
def lenM (t m : Value) : Nat := match m with
  | .bool true => strLen t + 1
  | _ => 0

/-- What a round of Split keeps. -/
def SplLen (l r : List UInt8) (done : List (List UInt8)) (mo : Bool) : Prop := r.length ≤ l.length ∧ done.length ≤ l.length + 1 - (if mo then r.length + 1 else 0)
def SplInv (l r : List UInt8) (done : List (List UInt8)) (mo : Bool) : Prop := (mo = true → (splitGo [] r).map (done ++ ·) = splitGo [] l) ∧ (mo = false → splitGo [] l = some done)

set_option maxHeartbeats 2000000 in
theorem split_any (l : List UInt8) (hl : l.length ≤ 100000) (w : World) (hr : Rdy w) :
    Calls Tryz.prog 44 #[.string (B l)] w fun e w' => ∃ v, e = .returned (.tuple #[v, .int .i64 (splitE (splitOf l))]) ∧ StrRow w.heap.size w' v (splitR (splitOf l)) ∧ Kept w w' := by
  by_cases hem : l.isEmpty = true
  · have h1 : (B l).toList.isEmpty = true := by rw [B_empty]; exact hem
    have HE : Hid (splitE (splitOf l) = 0 ∧ splitR (splitOf l) = []) := by
      have : l = [] := by simpa using hem
      subst this
      exact ⟨rfl, rfl⟩
    clear hem
    go_enter Tryz.func44, Tryz.ntmps44
    go_wp2_with fail
    go_step3
    go_wp2_with fail
    rw [Exit.noGoto_ret]
    go_ret2
    rw [HE.out.1, HE.out.2]
    exact ⟨_, rfl, StrRow.nil _ _, Kept.refl _⟩
  · have h1 : (B l).toList.isEmpty = false := by rw [B_empty]; simpa using hem
    have HE : Hid (splitE (splitOf l) = splitE (splitGo [] l) ∧ splitR (splitOf l) = splitR (splitGo [] l)) := by
      have : splitOf l = splitGo [] l := by
        unfold splitOf
        rw [if_neg (by simpa using hem)]
      rw [this]
      exact ⟨rfl, rfl⟩
    clear hem
    go_enter Tryz.func44, Tryz.ntmps44
    go_wp2_with fail
    go_step3
    go_wp2_with fail
    go_step3
    go_wp2_with fail
    clear h1
    go_loopw [0, 4, 5, 6] (fun t v e m wr => ∃ r done mo, t = .string (B r) ∧ e = .int .i64 0 ∧ m = .bool mo ∧ SplLen l r done mo ∧ SplInv l r done mo ∧ StrRow w.heap.size wr v done ∧ Kept w wr) (fun t _ _ m _ => lenM t m)
    case atStart => exact ⟨l, [], true, rfl, rfl, rfl, ⟨Nat.le_refl _, by simp⟩, ⟨fun _ => by simp, fun h => by cases h⟩, StrRow.nil _ _, Kept.refl _⟩
    case round =>
      obtain ⟨r, done, mo, rfl, rfl, rfl, HN, HP, hv, T⟩ := hrel
      have hsz := T.size
      have hrl := HN.1
      have hdl : done.length ≤ 1000000 := by have := HN.2; omega
      cases mo with
      | true =>
        rcases cut_one 32 r with ⟨a, b, e1, e2, _⟩ | ⟨e1, _⟩
        · subst e1
          have HL : Hid (splitGo [] (a ++ 32 :: b) = if within 33 126 a then (splitGo [] b).map (a :: ·) else none) := split_hit a b e2
          have HA : Hid (a.length + 1 + b.length = (a ++ 32 :: b).length ∧ (a ++ 32 :: b).length ≤ l.length ∧ done.length + (a.length + b.length + 2) ≤ l.length + 1) := by
            have h7 := HN.2
            have h8 : (a ++ 32 :: b).length = a.length + 1 + b.length := by simp; omega
            rw [h8] at hrl h7 ⊢
            refine ⟨rfl, hrl, ?_⟩
            simp at h7
            omega
          have hal : a.length ≤ 100000 := by have := HA.out.2.1; have := HA.out.1; omega
          have hcut := cut_hit 32 a b e2 wr (hr.kept T) (by omega)
          clear e2 hrl
          have hisw := isWord_any (B a) (by rw [B_size]; omega)
          rw [B_list] at hisw
          by_cases hw : within 33 126 a = true
          · have HG : Hid (splitGo [] (a ++ 32 :: b) = (splitGo [] b).map (a :: ·)) := by show _ = _; rw [HL.out, if_pos hw]
            rw [hw] at hisw
            clear hw
            go_wp2_with fail
            refine hcut.mono ?_
            rintro e w1 ⟨rfl, n1, hx⟩
            subst hx
            clear hcut
            have T1 := T.drewN n1
            go_wp2_with fail
            refine (hisw _).mono ?_
            rintro e w2 ⟨rfl, hx⟩
            subst w2
            clear hisw
            go_wp2_with fail
            refine (clone_any (B a) (by rw [B_size]; omega) _).mono ?_
            rintro e w2 ⟨rfl, k2⟩
            have v2 : StrRow w.heap.size w2 u4 done := StrRow.kept (w := wr.drewN n1) hv k2
            have T2 := T1.trans k2
            have hB2 : w.heap.size ≤ w2.heap.size := T2.size
            go_wp2_with (at_builtin; refine wpList_append_str _ (by rfl) _ _ rfl w.heap.size u4 done a (B a) rfl w2 rfl (by rfl) w2.heap.size rfl (by rfl) v2 hdl hB2 ?_; intro g3 c3 w3 i3 t3)
            go_roundw
            case rel =>
              refine ⟨b, done ++ [a], true, rfl, rfl, rfl, ⟨by have := HA.out; omega, ?_⟩, ⟨?_, fun h => by cases h⟩, ?_, Below.trans T2 t3⟩
              · have := HN.2; have := HA.out; simp; omega
              · intro _
                rw [← HP.1 rfl, HG.out]
                cases splitGo [] b <;> simp
              · exact i3
            case measure =>
              have := HA.out
              simp [lenM, strLen, B_size]
              omega
          · have HG : Hid (splitGo [] (a ++ 32 :: b) = none) := by show _ = _; rw [HL.out, if_neg hw]
            have hw' : within 33 126 a = false := by simpa using hw
            rw [hw'] at hisw
            clear hw hw'
            go_wp2_with fail
            refine hcut.mono ?_
            rintro e w1 ⟨rfl, n1, hx⟩
            subst hx
            clear hcut
            go_wp2_with fail
            refine (hisw _).mono ?_
            rintro e w2 ⟨rfl, hx⟩
            subst w2
            clear hisw
            go_wp2
            rw [Exit.noGoto_ret]
            go_ret2
            have hn : splitGo [] l = none := by rw [← HP.1 rfl, HG.out]; rfl
            have h5 := HE.out
            rw [hn] at h5
            rw [h5.1, h5.2]
            exact ⟨_, rfl, StrRow.nil _ _, T.drewN n1⟩
        · have HL : Hid (splitGo [] r = if within 33 126 r then some [r] else none) := split_miss r e1
          have HA : Hid (done.length + (r.length + 1) ≤ l.length + 1) := by
            have h7 := HN.2
            simp at h7
            show _ ≤ _
            omega
          have hcut := cut_miss 32 r e1 wr (hr.kept T) (by omega)
          clear e1
          have hisw := isWord_any (B r) (by rw [B_size]; omega)
          rw [B_list] at hisw
          by_cases hw : within 33 126 r = true
          · have HG : Hid (splitGo [] r = some [r]) := by show _ = _; rw [HL.out, if_pos hw]
            rw [hw] at hisw
            clear hw
            go_wp2_with fail
            refine hcut.mono ?_
            rintro e w1 ⟨rfl, n1, hx⟩
            subst hx
            clear hcut
            have T1 := T.drewN n1
            go_wp2_with fail
            refine (hisw _).mono ?_
            rintro e w2 ⟨rfl, hx⟩
            subst w2
            clear hisw
            go_wp2_with fail
            refine (clone_any (B r) (by rw [B_size]; omega) _).mono ?_
            rintro e w2 ⟨rfl, k2⟩
            have v2 : StrRow w.heap.size w2 u4 done := StrRow.kept (w := wr.drewN n1) hv k2
            have T2 := T1.trans k2
            have hB2 : w.heap.size ≤ w2.heap.size := T2.size
            go_wp2_with (at_builtin; refine wpList_append_str _ (by rfl) _ _ rfl w.heap.size u4 done r (B r) rfl w2 rfl (by rfl) w2.heap.size rfl (by rfl) v2 hdl hB2 ?_; intro g3 c3 w3 i3 t3)
            go_roundw
            case rel =>
              refine ⟨[], done ++ [r], false, rfl, rfl, rfl, ⟨by simp, ?_⟩, ⟨(fun h => by cases h), ?_⟩, ?_, Below.trans T2 t3⟩
              · have := HN.2; have := HA.out; simp; omega
              · intro _
                rw [← HP.1 rfl, HG.out]
                simp
              · exact i3
            case measure => simp [lenM]
          · have HG : Hid (splitGo [] r = none) := by show _ = _; rw [HL.out, if_neg hw]
            have hw' : within 33 126 r = false := by simpa using hw
            rw [hw'] at hisw
            clear hw hw'
            go_wp2_with fail
            refine hcut.mono ?_
            rintro e w1 ⟨rfl, n1, hx⟩
            subst hx
            clear hcut
            go_wp2_with fail
            refine (hisw _).mono ?_
            rintro e w2 ⟨rfl, hx⟩
            subst w2
            clear hisw
            go_wp2
            rw [Exit.noGoto_ret]
            go_ret2
            have hn : splitGo [] l = none := by rw [← HP.1 rfl, HG.out]; rfl
            have h5 := HE.out
            rw [hn] at h5
            rw [h5.1, h5.2]
            exact ⟨_, rfl, StrRow.nil _ _, T.drewN n1⟩
      | false =>
        go_wp2
        rw [Exit.noGoto_ret]
        go_ret2
        have h4 := HP.2 rfl
        have h5 := HE.out
        rw [h4] at h5
        rw [h5.1, h5.2]
        exact ⟨_, rfl, hv, T⟩
end Go.Proofs.YtolljdomnohmdabGreatDoor
namespace Go.Proofs.YtolljdomnohmdabGreatDoor
open Go.RowKit

theorem B_extract (l : List UInt8) (i j : Nat) : (B l).extract i j = B ((l.drop i).take (j - i)) := by
  rw [Lib.extract_eq, B_list]; rfl
theorem B_add (a b : List UInt8) : B a ++ B b = B (a ++ b) := by
  have h1 := B_of (B a ++ B b)
  rw [← h1]
  congr 1
theorem last_byte (l : List UInt8) (hl : l ≠ []) : ∃ c, l.getLast? = some c ∧ ∀ h, (B l)[l.length - 1]'h = c := by
  obtain ⟨a, c, rfl⟩ : ∃ a c, l = a ++ [c] := ⟨l.dropLast, l.getLast hl, (List.dropLast_concat_getLast hl).symm⟩
  refine ⟨c, by simp, fun h => ?_⟩
  obtain ⟨d, e1, e2, _, _⟩ := byte_get (B (a ++ [c])) ((a ++ [c]).length - 1) h
  rw [e1]
  rw [B_list] at e2
  simpa using e2.symm
/-- The piece of a text from i on, up to j. -/
def piece (l : List UInt8) (i j : Nat) : List UInt8 := (l.drop i).take (j - i)
theorem piece_same (l : List UInt8) (i : Nat) : piece l i i = [] := by simp [piece]
theorem piece_next {l : List UInt8} {i j : Nat} {c : UInt8} (h : l[j]? = some c) (hij : i ≤ j) : piece l i (j + 1) = piece l i j ++ [c] := by
  unfold piece
  rw [show j + 1 - i = (j - i) + 1 by omega, List.take_add_one, List.getElem?_drop, show i + (j - i) = j by omega, h]
  rfl

end Go.Proofs.YtolljdomnohmdabGreatDoor
namespace Go.Proofs.YtolljdomnohmdabGreatDoor
open Go.RowKit

theorem prefix_one (c : UInt8) (l : List UInt8) : Lib.hasPrefix l [c] = (l.head? == some c) := by
  unfold Lib.hasPrefix
  cases l with
  | nil => rfl
  | cons a b =>
    by_cases h : c = a
    · subst h; simp [List.isPrefixOf]
    · have h' : ¬ a = c := fun e => h e.symm
      have : (a == c) = false := by simp [h']
      simp [List.isPrefixOf, h, this]
theorem cutPrefix_any (l : List UInt8) (w : World) :
    Calls Tryz.prog 100 #[.string (B l), .string ⟨#[45]⟩] w fun e w' => e = .returned (.tuple #[.string (B (digs l)), .bool (isNeg l)]) ∧ w' = w := by
  have := Tryz.strings_CutPrefix (B l) ⟨#[45]⟩ w
  have h1 : Lib.hasPrefix l [45] = isNeg l := prefix_one 45 l
  have h2 : Lib.trimPrefix l [45] = digs l := by
    unfold Lib.trimPrefix digs
    rw [h1]
    split
    · simp
    · rfl
  rw [B_list, show (⟨#[45]⟩ : ByteArray).data.toList = [45] from rfl, h1, h2] at this
  exact this
theorem hasPrefix_any (l : List UInt8) (w : World) :
    Calls Tryz.prog 101 #[.string (B l), .string ⟨#[48]⟩] w fun e w' => e = .returned (.bool (l.head? == some 48)) ∧ w' = w := by
  have := Tryz.strings_HasPrefix (B l) ⟨#[48]⟩ w
  rw [B_list, show (⟨#[48]⟩ : ByteArray).data.toList = [48] from rfl, prefix_one] at this
  exact this
theorem digs_le (l : List UInt8) : (digs l).length ≤ l.length := by
  unfold digs
  split
  · simp
  · exact Nat.le_refl _

set_option maxHeartbeats 400000 in
theorem isDecimal_any (l : List UInt8) (hl : l.length ≤ 100000) (w : World) :
    Calls Tryz.prog 81 #[.string (B l)] w fun e w' => e = .returned (.bool (decForm l)) ∧ w' = w := by
  have hdl := digs_le l
  have hcp := cutPrefix_any l w
  have hhp := hasPrefix_any (digs l) w
  have hwi := within_any (B (digs l)) 48 57 (by rw [B_size]; omega) w
  rw [B_list] at hwi
  cases h0 : ((digs l).head? == some 48) with
  | true =>
    rw [h0] at hhp
    have HD : Hid (decForm l = (decide (digs l = [48]) && !isNeg l)) := by show _ = _; rw [decForm, if_pos h0]
    by_cases hd : digs l = [48]
    · have t1 : ((B (digs l)).toList == [48]) = true := by rw [toList_of, B_list, hd]; rfl
      have HD2 : Hid (decForm l = !isNeg l) := by show _ = _; rw [HD.out]; simp [hd]
      clear hd h0 HD
      generalize isNeg l = ng at *
      generalize digs l = d at *
      go_enter Tryz.func81, Tryz.ntmps81
      go_wp2_with fail
      refine hcp.mono ?_
      rintro e w1 ⟨rfl, hw⟩
      subst w1
      go_wp2_with fail
      refine hhp.mono ?_
      rintro e w1 ⟨rfl, hw⟩
      subst w1
      go_wp2_with fail
      go_ret
      rw [HD2.out]
      exact ⟨rfl, rfl⟩
    · have t1 : ((B (digs l)).toList == [48]) = false := by rw [toList_of, B_list, beq_eq_false_iff_ne]; exact hd
      have HD2 : Hid (decForm l = false) := by show _ = _; rw [HD.out]; simp [hd]
      clear hd h0 HD
      generalize isNeg l = ng at *
      generalize digs l = d at *
      go_enter Tryz.func81, Tryz.ntmps81
      go_wp2_with fail
      refine hcp.mono ?_
      rintro e w1 ⟨rfl, hw⟩
      subst w1
      go_wp2_with fail
      refine hhp.mono ?_
      rintro e w1 ⟨rfl, hw⟩
      subst w1
      go_wp2_with fail
      go_ret
      rw [HD2.out]
      exact ⟨rfl, rfl⟩
  | false =>
    rw [h0] at hhp
    have HD : Hid (decForm l = within 48 57 (digs l)) := by show _ = _; rw [decForm, if_neg (by rw [h0]; decide)]
    clear h0
    generalize isNeg l = ng at *
    generalize digs l = d at *
    go_enter Tryz.func81, Tryz.ntmps81
    go_wp2_with fail
    refine hcp.mono ?_
    rintro e w1 ⟨rfl, hw⟩
    subst w1
    go_wp2_with fail
    refine hhp.mono ?_
    rintro e w1 ⟨rfl, hw⟩
    subst w1
    go_wp2_with fail
    refine hwi.mono ?_
    rintro e w1 ⟨rfl, hw⟩
    subst w1
    go_wp2_with fail
    go_ret
    rw [HD.out]
    exact ⟨rfl, rfl⟩

theorem kept_grow (w : World) (k : Nat) (os : Array Obj) : Kept w (Sort.grow (w.drewN k) os) :=
  ⟨rfl, rfl, rfl, by simp [Sort.grow, World.drewN], fun i hi => by simp [Sort.grow, World.drewN, Array.getElem?_append_left hi]⟩

set_option maxHeartbeats 400000 in
theorem number_any (l : List UInt8) (hl : l.length ≤ 100000) (w : World) (hr : Rdy w) :
    Calls Tryz.prog 61 #[.string (B l)] w fun e w' => e = .returned (.tuple #[.int .i64 (numOf l).1, .int .i64 (numOf l).2]) ∧ Kept w w' := by
  have hde := isDecimal_any l hl w
  rcases numOf_cases l with ⟨hf, hn⟩ | ⟨hf, hn | ⟨n, hn, _, _⟩⟩
  · have HN : Hid (numOf l = (0, 2)) := hn
    rw [hf] at hde
    clear hf hn
    go_enter Tryz.func61, Tryz.ntmps61
    go_wp2_with fail
    refine hde.mono ?_
    rintro e w1 ⟨rfl, hw⟩
    subst w1
    go_wp2_with fail
    go_ret2
    rw [HN.out]
    exact ⟨rfl, Kept.refl _⟩
  · have HN : Hid (numOf l = (0, 14)) := hn
    obtain ⟨tp, p, hv⟩ := hr.er
    have hpa := Tryz.strconv_ParseInt_10_at64_range_var (B l) (by rw [B_size]; omega) (by rw [B_list]; exact (parseInt_range hf 0 hn).2) tp p w hv
    rw [hf] at hde
    clear hf hn hv
    go_enter Tryz.func61, Tryz.ntmps61
    go_wp2_with fail
    refine hde.mono ?_
    rintro e w1 ⟨rfl, hw⟩
    subst w1
    go_wp2_with fail
    refine hpa.mono ?_
    rintro e w1 ⟨N, rfl, _, _, k1⟩
    go_wp2_with fail
    go_ret2
    rw [HN.out]
    exact ⟨rfl, k1⟩
  · have HN : Hid (numOf l = (n, 0)) := hn
    have hpa := Tryz.strconv_ParseInt_10_at64_ok (B l) (by rw [B_size]; omega) n (by rw [B_list]; exact parseInt_ok hf n hn) w
    rw [hf] at hde
    clear hf hn
    go_enter Tryz.func61, Tryz.ntmps61
    go_wp2_with fail
    refine hde.mono ?_
    rintro e w1 ⟨rfl, hw⟩
    subst w1
    go_wp2_with fail
    refine hpa.mono ?_
    rintro e w1 ⟨rfl, hw⟩
    have k1 : Kept w w1 := by
      rcases hw with rfl | ⟨t, rfl⟩
      · exact Kept.refl _
      · exact Lib.bytesWorld_below _ _ _
    clear hw
    go_wp2_with fail
    go_ret2
    rw [HN.out]
    exact ⟨rfl, k1⟩

theorem text_any (n : Int) (h0 : -9223372036854775808 ≤ n) (h1 : n ≤ 9223372036854775807) (w : World) (hr : Rdy w) :
    Calls Tryz.prog 20 #[.int .i64 n] w fun e w' => e = .returned (.string (B (Lib.itoa n))) ∧ Kept w w' := by
  have hfm := Tryz.strconv_FormatInt_10 n h0 h1 w hr.tab
  clear h0 h1
  go_enter Tryz.func20, Tryz.ntmps20
  go_wp2_with fail
  refine hfm.mono ?_
  rintro e w1 ⟨rfl, k, os, hw⟩
  have k1 : Kept w w1 := by rw [hw]; exact kept_grow w k os
  clear hw
  go_wp2_with fail
  go_ret
  exact ⟨rfl, k1⟩
end Go.Proofs.YtolljdomnohmdabGreatDoor
