/- append of texts, Join, waitText, caseWords. -/
import Derived.Test.YtolljdomnohmdabGreatDoorTrn
import Derived.Test.YtolljdomnohmdabGreatDoorRWrd
import Derived.Test.YtolljdomnohmdabGreatDoorM2
import Derived.Test.YtolljdomnohmdabGreatDoorM3
namespace Go.Proofs.YtolljdomnohmdabGreatDoor
open Go.RowKit

/-- Some texts behind a row of texts. -/
theorem wpList_append_strs (w : World) {ops : Array Oper} {rest : List Oper} {o : Oper} {a : Act} {Q : Exit → Act → World → Prop} (hw : Region.wanted o (yielded ops a.tmps) = true) (s x : Operand)
    (ho : o.op = .call { callee := .builtin .append, args := #[s, x], argTypes := #[49, 49] })
    (base : Nat) (v1 : Value) (l1 l2 : List (List UInt8)) (b2 f2 c2 : Nat) (hs : a.eval s = v1) (hx : a.eval x = .slice (some ⟨b2, f2, none⟩) l2.length c2) (h1 : StrRow base w v1 l1) (h2 : At w (some ⟨b2, f2, none⟩) l2.length l2) (h0 : 0 < l2.length) (hl : l1.length + l2.length ≤ 1000000) (hB : base ≤ w.heap.size)
    (h : ∀ g cap w', StrRow base w' (.slice (some ⟨g, 0, none⟩) (l1.length + l2.length) cap) (l1 ++ l2) → Turns (fun k => v1.ownBlock = some k) w w' → (v1.ownBlock = some g ∨ w.heap.size ≤ g) → wpList Tryz.prog ops Q rest (a.put o.dst (.slice (some ⟨g, 0, none⟩) (l1.length + l2.length) cap)) w') :
    wpList Tryz.prog ops Q (o :: rest) a w := by
  refine wpList_step fun K hK => ?_
  rw [if_pos hw]
  obtain ⟨i, hi, hz0, hz1, hz2⟩ := info_parts info9
  have hc : ∀ j u, (l2.map strV)[j]? = some u → w.cell? (Addr.add ⟨b2, f2, none⟩ j) = some u := by
    intro j u hu
    have hj : j < l2.length := by
      rcases Nat.lt_or_ge j l2.length with h | h
      · exact h
      · rw [List.getElem?_eq_none (by simpa using h)] at hu; cases hu
    obtain ⟨b, f, e, hcell⟩ := h2.2 j hj
    cases e
    rw [Addr.add_lit, hcell]
    rw [List.getElem?_map] at hu
    simp [hj, strV] at hu
    rw [← hu]
    simp [hj, List.getD_eq_getElem?_getD]
  obtain ⟨v', w', hr, k1, k2, k3, k4⟩ := run_append_own_at (P := Tryz.prog) w base 49 o.type 9 i _ 1 16 Tryz.underlying49 hi hz0 hz1 hz2 rfl (by omega) _ l1.length (l1.map strV) h1 ⟨b2, f2, none⟩ l2.length c2 (l2.map strV) (by simp) hc (strs_ones l2) (by unfold maxLen; omega) (by omega) hB
  obtain ⟨g, cap, rfl⟩ := own_form k1 (fun e => by have := k3.1 e; have := this.2; omega)
  unfold Oper.wp
  simp [execOp, ho, resolve, invoke, builtin, hs, hx, hr, Result.andThen]
  refine hK _ _ (h g cap w' ?_ ?_ ?_)
  · unfold StrRow
    rw [List.length_append, List.map_append]
    exact k1
  · exact Turns.grown k2 (fun k e => e)
  · rcases k4 with k4 | k4
    · exact .inl k4.symm
    · right; simp [Value.ownBlock] at k4; omega

theorem join_W : ∀ l : List (List UInt8), Lib.join l [32] = joinW l
  | [] => rfl
  | [x] => by simp [Lib.join, joinW]
  | x :: y :: r => by
    have ih := join_W (y :: r)
    rw [joinW, ← ih]
    simp [Lib.join]
theorem joinW_le (b : Nat) : ∀ (ls : List (List UInt8)), (∀ x ∈ ls, x.length ≤ b) → (joinW ls).length ≤ (b + 1) * ls.length
  | [], _ => by simp [joinW]
  | [x], h => by have := h x (by simp); simp [joinW]; omega
  | x :: y :: r, h => by
    have := joinW_le b (y :: r) (fun z hz => h z (List.mem_cons_of_mem _ hz))
    have h1 := h x (by simp)
    rw [joinW, List.length_append, List.length_cons]
    simp only [List.length_cons] at *
    rw [Nat.mul_add, Nat.mul_one]
    omega
theorem itoa_len {n : Int} (h : in64 n) : (Lib.itoa n).length ≤ 20 := by
  unfold Lib.itoa
  unfold in64 at h
  split
  · have := dec_len19 n.natAbs (by omega)
    rw [List.length_cons]; omega
  · have := dec_len19 n.toNat (by omega)
    omega
theorem waitT_len {n : Int} (h : in64 n) : (waitT n).length ≤ 20 := by
  unfold waitT
  split
  · simp
  · exact itoa_len h

theorem join_any {base : Nat} {w : World} {v : Value} {l : List (List UInt8)} (h : StrRow base w v l) (hl : 0 < l.length) (hb : ∀ x ∈ l, x.length ≤ 60) (hn : l.length ≤ 1000) :
    Calls Tryz.prog 34 #[v, .string ⟨#[32]⟩] w fun e w' => e = .returned (.string (B (joinW l))) ∧ Kept w w' := by
  rcases h.2 with ⟨h1, h2⟩ | ⟨g, cap, cur, h1, _, hgg, h3, _⟩
  · omega
  · subst h1
    have hle := joinW_le 60 l hb
    have hm : (60 + 1) * l.length ≤ 61 * 1000 := Nat.mul_le_mul_left 61 hn
    have := Tryz.strings_Join g 0 cap (l.map B) ⟨#[32]⟩ w ?_ (Array.getElem?_eq_some_iff.1 hgg).1 (by rw [List.length_map]; omega) (by rw [List.length_map]; exact h3) ?_
    · rw [List.length_map, List.map_map] at this
      rw [show ((fun x : ByteArray => x.data.toList) ∘ B) = id from rfl, List.map_id] at this
      rw [show (⟨#[32]⟩ : ByteArray).data.toList = [32] from rfl, join_W] at this
      exact this
    · intro j x hj
      have h' := h
      unfold StrRow at h'
      rw [h'.cellAt (0 + j) ?_]
      · rw [Nat.zero_add, List.getElem?_map]
        rw [List.getElem?_map] at hj
        obtain ⟨y, hy, rfl⟩ := Option.map_eq_some_iff.1 hj
        rw [hy]; rfl
      · have : j < l.length := by
          rcases Nat.lt_or_ge j l.length with h | h
          · exact h
          · rw [List.getElem?_eq_none (by simpa using h)] at hj; cases hj
        omega
    · rw [List.map_map, show ((fun x : ByteArray => x.data.toList) ∘ B) = id from rfl, List.map_id, show (⟨#[32]⟩ : ByteArray).data.toList = [32] from rfl, join_W]
      omega

theorem waitText_any (n : Int) (h : in64 n) (w : World) (hr : Rdy w) :
    Calls Tryz.prog 37 #[.int .i64 n] w fun e w' => e = .returned (.string (B (waitT n))) ∧ Kept w w' := by
  by_cases hn : n = -1
  · subst hn
    go_enter Tryz.func37, Tryz.ntmps37
    go_wp2_with fail
    go_ret
    exact ⟨rfl, Kept.refl _⟩
  · have h1 : (n == -1) = false := by simp [hn]
    have HT : Hid (waitT n = Lib.itoa n) := by show _ = _; unfold waitT; rw [if_neg hn]
    go_enter Tryz.func37, Tryz.ntmps37
    go_wp2_with fail
    refine (text_any n h.1 h.2 w hr).mono ?_
    rintro e w1 ⟨rfl, t1⟩
    go_wp2_with fail
    go_ret
    rw [HT.out]
    exact ⟨rfl, t1⟩
end Go.Proofs.YtolljdomnohmdabGreatDoor
namespace Go.Proofs.YtolljdomnohmdabGreatDoor
open Go.RowKit

theorem caseW_len (c : CaseD) : (caseW c).length ≤ 3 := by
  unfold caseW
  split <;> simp
theorem words_len : ∀ l : List CaseD, (l.flatMap caseW).length ≤ 3 * l.length
  | [] => by simp
  | c :: r => by
    have := words_len r
    have h1 := caseW_len c
    rw [List.flatMap_cons, List.length_append, List.length_cons]
    omega
theorem words_snoc (l : List CaseD) (c : CaseD) : (l ++ [c]).flatMap caseW = l.flatMap caseW ++ caseW c := by simp
theorem StrRow.far {base : Nat} {w : World} {v : Value} {l : List (List UInt8)} (h : StrRow base w v l) : ∀ k, v.ownBlock = some k → base ≤ k := fun k hk => (World.ownsRow.lt h k hk).1

set_option maxHeartbeats 2000000 in
theorem caseWords_any (a : Option Addr) (m c : Nat) (l : List CaseD) (w : World) (hr : Rdy w) (hA : AtC w a m l) (hm : m ≤ 20) (hi : ∀ c ∈ l, in64 c.chan ∧ in64 c.v) :
    Calls Tryz.prog 38 #[.slice a m c] w fun e w' => ∃ v, e = .returned v ∧ StrRow w.heap.size w' v (l.flatMap caseW) ∧ Kept w w' := by
  have HA : Hid (AtC w a m l) := hA
  have HL : Hid (l.length = m) := hA.1
  have HI : Hid (∀ c ∈ l, in64 c.chan ∧ in64 c.v) := hi
  clear hA hi
  go_enter Tryz.func38, Tryz.ntmps38
  go_wp2_with fail
  go_loopg [3, 9] m (fun gk v i wr => ∃ k : Nat, i = .int .i64 k ∧ k + gk = m ∧ StrRow w.heap.size wr v ((l.take k).flatMap caseW) ∧ Kept w wr)
  case atStart => exact ⟨0, rfl, by omega, StrRow.nil _ _, Kept.refl _⟩
  case round =>
    obtain ⟨k, rfl, hk, R, T⟩ := hrel
    by_cases hkm : k < m
    · obtain ⟨b, f, sd, ch, x, rfl, g0, g1, g2, hb, e1, e2, e3⟩ := (HA.out.kept T).get k hkm
      have b1 : (k : Int) < (m : Int) := by omega
      have b2 : (0 : Int) ≤ (k : Int) := by omega
      have HW : Hid ((l.take (k + 1)).flatMap caseW = (l.take k).flatMap caseW ++ caseW ⟨sd, ch, x⟩) := by show _ = _; rw [e2, words_snoc]
      have H64 : Hid (in64 ch ∧ in64 x) := HI.out _ (List.mem_of_getElem? e1)
      have hlen : ((l.take k).flatMap caseW).length ≤ 1000 := by
        have := words_len (l.take k)
        rw [List.length_take] at this
        omega
      clear e1 e2 e3
      obtain ⟨g3, rfl⟩ : ∃ g, gk = g + 1 := ⟨gk - 1, by omega⟩
      generalize (l.take k).flatMap caseW = done at *
      have T1 := T.alloc (.cells #[.bool sd, .int .i64 ch, .int .i64 x] 57)
      have GS : Hid ((wr.alloc (.cells #[.bool sd, .int .i64 ch, .int .i64 x] 57)).cell? ⟨wr.heap.size, 0, none⟩ = some (.bool sd)) := by show _ = _; rw [World.cell?_alloc_at _ _ _ _ rfl]; rfl
      have GV : Hid ((wr.alloc (.cells #[.bool sd, .int .i64 ch, .int .i64 x] 57)).cell? ⟨wr.heap.size, 2, none⟩ = some (.int .i64 x)) := by show _ = _; rw [World.cell?_alloc_at _ _ _ _ rfl]; rfl
      go_wp2_with fail
      refine (text_any ch H64.out.1.1 H64.out.1.2 _ (hr.kept T1)).mono ?_
      rintro e w1 ⟨rfl, t1⟩
      have hs := t1.cell GS.out
      have hv := t1.cell GV.out
      have hlt := cell_lt hs
      have T2 := T1.trans t1
      have R2 := (R.kept ((Kept.refl _).alloc (.cells #[.bool sd, .int .i64 ch, .int .i64 x] 57))).kept t1
      cases sd with
      | true =>
        go_wp2_with fail
        refine (text_any x H64.out.2.1 H64.out.2.2 w1 (hr.kept T2)).mono ?_
        rintro e w2 ⟨rfl, t2⟩
        have T3 := T2.trans t2
        have R3 := R2.kept t2
        have hT3 := T3.size
        go_wp2_with (at_builtin; refine wpList_append_strs _ (by rfl) _ _ rfl w.heap.size u3 done [sendW, Lib.itoa ch, Lib.itoa x] w2.heap.size 0 3 (by rfl) (by rfl) (R3.kept ((Kept.refl _).alloc _)) (lit_strs w2 [sendW, Lib.itoa ch, Lib.itoa x] _ rfl) (by simp) (by simp; omega) (le_alloc _ hT3) ?_; intro g4 c4 w4 i4 t4 f4)
        go_roundg g3
        case rel =>
          refine ⟨k + 1, by go_num, by omega, by rw [HW.out]; exact i4, t4.kept (T3.alloc _) (R3.far)⟩
        case measure => omega
      | false =>
        have hT2 := T2.size
        go_wp2_with (at_builtin; refine wpList_append_strs _ (by rfl) _ _ rfl w.heap.size u3 done [recvW, Lib.itoa ch] w1.heap.size 0 2 (by rfl) (by rfl) (R2.kept ((Kept.refl _).alloc _)) (lit_strs w1 [recvW, Lib.itoa ch] _ rfl) (by simp) (by simp; omega) (le_alloc _ hT2) ?_; intro g4 c4 w4 i4 t4 f4)
        go_roundg g3
        case rel =>
          refine ⟨k + 1, by go_num, by omega, by rw [HW.out]; exact i4, t4.kept (T2.alloc _) (R2.far)⟩
        case measure => omega
    · have b1 : ¬ (k : Int) < (m : Int) := by omega
      have hlk : l.take k = l := List.take_of_length_le (by rw [HL.out]; omega)
      rw [hlk] at R
      go_wp2_with fail
      go_ret
      exact ⟨_, rfl, R, T⟩
end Go.Proofs.YtolljdomnohmdabGreatDoor
namespace Go.Proofs.YtolljdomnohmdabGreatDoor
open Go.RowKit

/-- A number of 32 bits, or why not. -/
def smallR (p : Int × Int) : Int × Int := if p.2 = 0 then (if p.1 < -2147483648 then (0, 14) else if p.1 > 2147483647 then (0, 14) else (p.1, 0)) else (0, p.2)
def smallD (l : List UInt8) : Int × Int := smallR (numOf l)
theorem smallR_low {n : Int} (h : n < -2147483648) : smallR (n, 0) = (0, 14) := by unfold smallR; rw [if_pos rfl, if_pos h]
theorem smallR_high {n : Int} (h : ¬ n < -2147483648) (h2 : n > 2147483647) : smallR (n, 0) = (0, 14) := by unfold smallR; rw [if_pos rfl, if_neg h, if_pos h2]
theorem smallR_yes {n : Int} (h : ¬ n < -2147483648) (h2 : ¬ n > 2147483647) : smallR (n, 0) = (n, 0) := by unfold smallR; rw [if_pos rfl, if_neg h, if_neg h2]
theorem smallR_bad {p : Int × Int} (h : ¬ p.2 = 0) : smallR p = (0, p.2) := by unfold smallR; rw [if_neg h]
theorem smallOf_any (n : Int) (w : World) : Calls Tryz.prog 80 #[.int .i64 n] w fun e w' => e = .returned (.tuple #[.int .i64 (smallR (n, 0)).1, .int .i64 (smallR (n, 0)).2]) ∧ Kept w w' := by
  by_cases h1 : n < -2147483648
  · rw [smallR_low h1]
    go_enter Tryz.func80, Tryz.ntmps80
    go_wp2_with fail
    go_ret2
    exact ⟨rfl, Kept.refl w⟩
  · by_cases h2 : n > 2147483647
    · rw [smallR_high h1 h2]
      go_enter Tryz.func80, Tryz.ntmps80
      go_wp2_with fail
      go_ret2
      exact ⟨rfl, Kept.refl w⟩
    · rw [smallR_yes h1 h2]
      go_enter Tryz.func80, Tryz.ntmps80
      go_wp2_with fail
      go_ret2
      exact ⟨rfl, Kept.refl w⟩
theorem smallNumber_any (l : List UInt8) (hl : l.length ≤ 100000) (w : World) (hr : Rdy w) :
    Calls Tryz.prog 59 #[.string (B l)] w fun e w' => e = .returned (.tuple #[.int .i64 (smallD l).1, .int .i64 (smallD l).2]) ∧ Kept w w' := by
  have hnum := number_any l hl w hr
  unfold smallD
  obtain ⟨p, hp⟩ : ∃ p, numOf l = p := ⟨_, rfl⟩
  rw [hp] at hnum ⊢
  obtain ⟨n, f⟩ := p
  simp only at hnum
  by_cases h : f = 0
  · subst h
    have hs := smallOf_any n
    obtain ⟨q, hq⟩ : ∃ q, smallR (n, 0) = q := ⟨_, rfl⟩
    rw [hq] at hs ⊢
    clear hq hp
    go_enter Tryz.func59, Tryz.ntmps59
    go_wp2_with fail
    refine hnum.mono ?_
    rintro e w1 ⟨rfl, K1⟩
    go_wp2_with fail
    refine (hs w1).mono ?_
    rintro e w2 ⟨rfl, K2⟩
    go_wp2_with fail
    go_ret2
    exact ⟨rfl, K1.trans K2⟩
  · rw [smallR_bad h]
    clear hp
    go_enter Tryz.func59, Tryz.ntmps59
    go_wp2_with fail
    refine hnum.mono ?_
    rintro e w1 ⟨rfl, K1⟩
    go_wp2_with fail
    go_ret2
    exact ⟨rfl, K1⟩
/-- A Server as it is written. -/
def servD (l : List UInt8) : Int × Int := smallR (waitOf l)
theorem serverOf_any (x : List UInt8) (hx : x.length ≤ 100000) (w : World) (hr : Rdy w) :
    Calls Tryz.prog 60 #[.string (B x)] w fun e w' => e = .returned (.tuple #[.int .i64 (servD x).1, .int .i64 (servD x).2]) ∧ Kept w w' := by
  by_cases hd : x = [45]
  · have e1 : ((B x).toList == [45]) = true := by rw [B_is, hd]; rfl
    have HW : Hid (servD x = (-1, 0)) := by show _ = _; rw [hd]; rfl
    clear hd
    go_enter Tryz.func60, Tryz.ntmps60
    go_wp2_with fail
    go_ret2
    rw [HW.out]
    exact ⟨rfl, Kept.refl w⟩
  · have e1 : ((B x).toList == [45]) = false := by rw [B_is]; simpa using hd
    have hnu := number_any x hx w hr
    rcases numOf_cases x with ⟨_, e⟩ | ⟨_, e | ⟨m, e, _⟩⟩
    · have HW : Hid (servD x = (0, 2)) := by show _ = _; unfold servD waitOf; rw [if_neg hd, e]; rfl
      rw [e] at hnu
      clear hd e
      go_enter Tryz.func60, Tryz.ntmps60
      go_wp2_with fail
      refine hnu.mono ?_
      rintro en w1 ⟨rfl, K1⟩
      go_wp2_with fail
      go_ret2
      rw [HW.out]
      exact ⟨rfl, K1⟩
    · have HW : Hid (servD x = (0, 14)) := by show _ = _; unfold servD waitOf; rw [if_neg hd, e]; rfl
      rw [e] at hnu
      clear hd e
      go_enter Tryz.func60, Tryz.ntmps60
      go_wp2_with fail
      refine hnu.mono ?_
      rintro en w1 ⟨rfl, K1⟩
      go_wp2_with fail
      go_ret2
      rw [HW.out]
      exact ⟨rfl, K1⟩
    · by_cases hm : m < 0
      · have HW : Hid (servD x = (0, 2)) := by show _ = _; unfold servD waitOf; rw [if_neg hd, e]; simp [hm, smallR]
        rw [e] at hnu
        clear hd e
        go_enter Tryz.func60, Tryz.ntmps60
        go_wp2_with fail
        refine hnu.mono ?_
        rintro en w1 ⟨rfl, K1⟩
        go_wp2_with fail
        go_ret2
        rw [HW.out]
        exact ⟨rfl, K1⟩
      · have hs := smallOf_any m
        obtain ⟨q, hq⟩ : ∃ q, smallR (m, 0) = q := ⟨_, rfl⟩
        have HW : Hid (servD x = q) := by show _ = _; unfold servD waitOf; rw [if_neg hd, e]; simp [hm, hq]
        rw [hq] at hs
        clear hq
        rw [e] at hnu
        clear hd e
        go_enter Tryz.func60, Tryz.ntmps60
        go_wp2_with fail
        refine hnu.mono ?_
        rintro en w1 ⟨rfl, K1⟩
        go_wp2_with fail
        refine (hs w1).mono ?_
        rintro en w2 ⟨rfl, K2⟩
        go_wp2_with fail
        go_ret2
        rw [HW.out]
        exact ⟨rfl, K1.trans K2⟩
theorem serverText_any (n : Int) (h : in64 n) (w : World) (hr : Rdy w) :
    Calls Tryz.prog 21 #[.int .i64 n] w fun e w' => e = .returned (.string (B (waitT n))) ∧ Kept w w' := by
  by_cases hn : n = -1
  · subst hn
    go_enter Tryz.func21, Tryz.ntmps21
    go_wp2_with fail
    go_ret
    exact ⟨rfl, Kept.refl _⟩
  · have h1 : (n == -1) = false := by simp [hn]
    have HT : Hid (waitT n = Lib.itoa n) := by show _ = _; unfold waitT; rw [if_neg hn]
    go_enter Tryz.func21, Tryz.ntmps21
    go_wp2_with fail
    refine (text_any n h.1 h.2 w hr).mono ?_
    rintro e w1 ⟨rfl, t1⟩
    go_wp2_with fail
    go_ret
    rw [HT.out]
    exact ⟨rfl, t1⟩
/-- Does a line of an op begin so? -/
def opWordB (x : List UInt8) : Bool := !(kindOf x == 0)
theorem isOpWord_any (x : List UInt8) (w : World) : Calls Tryz.prog 57 #[.string (B x)] w fun e w' => e = .returned (.bool (opWordB x)) ∧ Kept w w' := by
  by_cases h0 : x = [114, 117, 110]
  · have e0 : ((B x).toList == [114, 117, 110]) = true := by rw [B_is, h0]; rfl
    have HV : Hid (opWordB x = true) := by show _ = _; rw [h0]; rfl
    clear h0
    go_enter Tryz.func57, Tryz.ntmps57
    go_wp2_with fail
    go_ret
    rw [HV.out]
    exact ⟨rfl, Kept.refl w⟩
  have e0 : ((B x).toList == [114, 117, 110]) = false := by rw [B_is]; simpa using h0
  by_cases h1 : x = [108, 111, 99, 107]
  · have e1 : ((B x).toList == [108, 111, 99, 107]) = true := by rw [B_is, h1]; rfl
    have HV : Hid (opWordB x = true) := by show _ = _; rw [h1]; rfl
    clear h1
    go_enter Tryz.func57, Tryz.ntmps57
    go_wp2_with fail
    go_ret
    rw [HV.out]
    exact ⟨rfl, Kept.refl w⟩
  have e1 : ((B x).toList == [108, 111, 99, 107]) = false := by rw [B_is]; simpa using h1
  by_cases h2 : x = [117, 110, 108, 111, 99, 107]
  · have e2 : ((B x).toList == [117, 110, 108, 111, 99, 107]) = true := by rw [B_is, h2]; rfl
    have HV : Hid (opWordB x = true) := by show _ = _; rw [h2]; rfl
    clear h2
    go_enter Tryz.func57, Tryz.ntmps57
    go_wp2_with fail
    go_ret
    rw [HV.out]
    exact ⟨rfl, Kept.refl w⟩
  have e2 : ((B x).toList == [117, 110, 108, 111, 99, 107]) = false := by rw [B_is]; simpa using h2
  by_cases h3 : x = [115, 101, 110, 100]
  · have e3 : ((B x).toList == [115, 101, 110, 100]) = true := by rw [B_is, h3]; rfl
    have HV : Hid (opWordB x = true) := by show _ = _; rw [h3]; rfl
    clear h3
    go_enter Tryz.func57, Tryz.ntmps57
    go_wp2_with fail
    go_ret
    rw [HV.out]
    exact ⟨rfl, Kept.refl w⟩
  have e3 : ((B x).toList == [115, 101, 110, 100]) = false := by rw [B_is]; simpa using h3
  by_cases h4 : x = [114, 101, 99, 118]
  · have e4 : ((B x).toList == [114, 101, 99, 118]) = true := by rw [B_is, h4]; rfl
    have HV : Hid (opWordB x = true) := by show _ = _; rw [h4]; rfl
    clear h4
    go_enter Tryz.func57, Tryz.ntmps57
    go_wp2_with fail
    go_ret
    rw [HV.out]
    exact ⟨rfl, Kept.refl w⟩
  have e4 : ((B x).toList == [114, 101, 99, 118]) = false := by rw [B_is]; simpa using h4
  by_cases h5 : x = [99, 108, 111, 115, 101]
  · have e5 : ((B x).toList == [99, 108, 111, 115, 101]) = true := by rw [B_is, h5]; rfl
    have HV : Hid (opWordB x = true) := by show _ = _; rw [h5]; rfl
    clear h5
    go_enter Tryz.func57, Tryz.ntmps57
    go_wp2_with fail
    go_ret
    rw [HV.out]
    exact ⟨rfl, Kept.refl w⟩
  have e5 : ((B x).toList == [99, 108, 111, 115, 101]) = false := by rw [B_is]; simpa using h5
  by_cases h6 : x = [115, 101, 108, 101, 99, 116]
  · have e6 : ((B x).toList == [115, 101, 108, 101, 99, 116]) = true := by rw [B_is, h6]; rfl
    have HV : Hid (opWordB x = true) := by show _ = _; rw [h6]; rfl
    clear h6
    go_enter Tryz.func57, Tryz.ntmps57
    go_wp2_with fail
    go_ret
    rw [HV.out]
    exact ⟨rfl, Kept.refl w⟩
  have e6 : ((B x).toList == [115, 101, 108, 101, 99, 116]) = false := by rw [B_is]; simpa using h6
  by_cases h7 : x = [108, 111, 111, 112]
  · have e7 : ((B x).toList == [108, 111, 111, 112]) = true := by rw [B_is, h7]; rfl
    have HV : Hid (opWordB x = true) := by show _ = _; rw [h7]; rfl
    clear h7
    go_enter Tryz.func57, Tryz.ntmps57
    go_wp2_with fail
    go_ret
    rw [HV.out]
    exact ⟨rfl, Kept.refl w⟩
  have e7 : ((B x).toList == [108, 111, 111, 112]) = false := by rw [B_is]; simpa using h7
  by_cases h8 : x = [101, 110, 100]
  · have e8 : ((B x).toList == [101, 110, 100]) = true := by rw [B_is, h8]; rfl
    have HV : Hid (opWordB x = true) := by show _ = _; rw [h8]; rfl
    clear h8
    go_enter Tryz.func57, Tryz.ntmps57
    go_wp2_with fail
    go_ret
    rw [HV.out]
    exact ⟨rfl, Kept.refl w⟩
  have e8 : ((B x).toList == [101, 110, 100]) = false := by rw [B_is]; simpa using h8
  have HV : Hid (opWordB x = false) := by
    show _ = _
    unfold opWordB kindOf
    simp [h0, h1, h2, h3, h4, h5, h6, h7, h8]
  clear h0 h1 h2 h3 h4 h5 h6 h7 h8
  go_enter Tryz.func57, Tryz.ntmps57
  go_wp2_with fail
  go_ret
  rw [HV.out]
  exact ⟨rfl, Kept.refl w⟩
end Go.Proofs.YtolljdomnohmdabGreatDoor
