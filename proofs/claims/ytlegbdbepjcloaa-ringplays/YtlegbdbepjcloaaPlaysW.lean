/- RingPlays, walked. -/
import Derived.Test.YtlegbdbepjcloaaRef
namespace Go.Proofs.Ytlegbdbepjcloaa
open Go.RowKit Go.Conc

/-- The row behind Push, and what Push answers. -/
def pushR (m : Nat) (row : List Int) (v : Int) : List Int := if row.length < m then row ++ [v] else row
def pushB (m : Nat) (row : List Int) : Bool := decide (row.length < m)
/-- What Pop answers. -/
def popV (row : List Int) : Int := row.headD 0
def popB (row : List Int) : Bool := !row.isEmpty

theorem push_any {B : Nat} {w : World} {rb c room : Nat} {row : List Int} (v : Int) (h : RP B w rb c room row) :
    Calls Try.prog 11 #[.pointer (some ⟨rb, 0, none⟩), .int .i64 v] w fun e w' => e = .returned (.bool (pushB room row)) ∧ RP B w' rb c room (pushR room row v) ∧ Turns (fun k => k = c) w w' := by
  by_cases hr : row.length < room
  · rw [show pushB room row = true from decide_eq_true hr, show pushR room row v = row ++ [v] from if_pos hr]
    exact push_room v h hr
  · rw [show pushB room row = false from decide_eq_false hr, show pushR room row v = row from if_neg hr]
    refine (push_full v h (by omega)).mono ?_
    rintro e w' ⟨rfl, rfl⟩
    exact ⟨rfl, h, Turns.refl _ _⟩
theorem pop_any {B : Nat} {w : World} {rb c room : Nat} {row : List Int} (h : RP B w rb c room row) :
    Calls Try.prog 12 #[.pointer (some ⟨rb, 0, none⟩)] w fun e w' => e = .returned (.tuple #[.int .i64 (popV row), .bool (popB row)]) ∧ RP B w' rb c room row.tail ∧ Turns (fun k => k = c) w w' := by
  rcases row with _ | ⟨x, row⟩
  · refine (pop_none h).mono ?_
    rintro e w' ⟨rfl, rfl⟩
    exact ⟨rfl, h, Turns.refl _ _⟩
  · exact pop_some x h

/-- What a call leaves of the reference's ring. -/
structure MO (B : Nat) (w w' : World) (mb most : Nat) (lv lv' : Value) (l' : List Int) : Prop where
  rm : RM B w' mb most lv' l'
  tu : Turns (fun k => k = mb) w w'
  nw : ∀ k, lv'.ownBlock = some k → lv.ownBlock = some k ∨ w.heap.size ≤ k

theorem rpush_any {B : Nat} {w : World} {mb most : Nat} {lv : Value} {l : List Int} (v : Int) (h : RM B w mb most lv l) (hB : B ≤ w.heap.size) :
    Calls Try.prog 13 #[.pointer (some ⟨mb, 0, none⟩), .int .i64 v] w fun e w' => e = .returned (.bool (pushB most l)) ∧ ∃ lv', MO B w w' mb most lv lv' (pushR most l v) := by
  by_cases hr : l.length < most
  · rw [show pushB most l = true from decide_eq_true hr, show pushR most l v = l ++ [v] from if_pos hr]
    refine (rpush_room v h hr hB).mono ?_
    rintro e w' ⟨rfl, lv', o⟩
    exact ⟨rfl, lv', o.rm, o.tu, fun k e => .inr (o.nw k e)⟩
  · rw [show pushB most l = false from decide_eq_false hr, show pushR most l v = l from if_neg hr]
    refine (rpush_full v h (by omega)).mono ?_
    rintro e w' ⟨rfl, t⟩
    exact ⟨rfl, lv, h.keep t, t.mono (fun _ _ x => x.elim), fun k e => .inl e⟩
theorem rpop_any {B : Nat} {w : World} {mb most : Nat} {lv : Value} {l : List Int} (h : RM B w mb most lv l) (hB : B ≤ w.heap.size) :
    Calls Try.prog 14 #[.pointer (some ⟨mb, 0, none⟩)] w fun e w' => e = .returned (.tuple #[.int .i64 (popV l), .bool (popB l)]) ∧ ∃ lv', MO B w w' mb most lv lv' l.tail := by
  rcases l with _ | ⟨x, l⟩
  · refine (rpop_none h).mono ?_
    rintro e w' ⟨rfl, rfl⟩
    exact ⟨rfl, lv, h, Turns.refl _ _, fun k e => .inl e⟩
  · refine (rpop_some h hB).mono ?_
    rintro e w' ⟨rfl, lv', o⟩
    exact ⟨rfl, lv', o.rm, o.tu, fun k e => .inr (o.nw k e)⟩

/-- The program's ring and the reference's, with the same row, sharing nothing. -/
structure Both (w0 w : World) (rb c mb m : Nat) (lv : Value) (row : List Int) : Prop where
  rp : RP w0.heap.size w rb c m row
  rm : RM w0.heap.size w mb m lv row
  ap : ∀ k, RFoot rb c k → ¬ MFoot mb lv k
  tu : Turns (fun _ => False) w0 w

section
variable {w0 w w' : World} {rb c mb m : Nat} {lv : Value} {row : List Int}
theorem Both.keep (h : Both w0 w rb c mb m lv row) (t : Turns (fun _ => False) w w') : Both w0 w' rb c mb m lv row :=
  ⟨h.rp.keep t, h.rm.keep t, h.ap, h.tu.trans t⟩
/-- The program's ring has gone on, the reference's not yet. -/
theorem Both.ring (h : Both w0 w rb c mb m lv row) (t : Turns (fun k => k = c) w w') : RM w0.heap.size w' mb m lv row ∧ Turns (fun _ => False) w0 w' :=
  ⟨h.rm.turns t (fun k e => h.ap k (.inr e)), h.rp.frame (Nat.le_refl _) h.tu t⟩
/-- All has gone round. -/
theorem Both.all (h : Both w0 w rb c mb m lv row) (hp : RP w0.heap.size w' rb c m row) (t : Turns (fun k => k = c) w w') : Both w0 w' rb c mb m lv row :=
  ⟨hp, (h.ring t).1, h.ap, (h.ring t).2⟩
/-- Now the reference's has gone on, too. -/
theorem Both.next {w1 w2 : World} {row' : List Int} {lv' : Value} (h : Both w0 w rb c mb m lv row) (hp : RP w0.heap.size w1 rb c m row') (t : Turns (fun k => k = c) w w1) (o : MO w0.heap.size w1 w2 mb m lv lv' row') : Both w0 w2 rb c mb m lv' row' := by
  refine ⟨hp.turns o.tu (fun k e hf => h.ap k hf (.inl e)), o.rm, ?_, (h.ring t).1.frame (Nat.le_refl _) (h.ring t).2 o.tu⟩
  intro k hk hf
  rcases hf with hf | hf
  · exact h.ap k hk (.inl hf)
  · rcases o.nw k hf with h1 | h1
    · exact h.ap k hk (.inr h1)
    · have := (hp.foot k hk).2; omega
/-- The twin goes on in the ring's place. -/
theorem Both.twin {w1 : World} {tb tc : Nat} (h : Both w0 w rb c mb m lv row) (o : TwinOut w0.heap.size w w1 rb c m row tb tc) (t : Turns (fun k => k = c) w1 w') : Both w0 w' tb tc mb m lv row := by
  have t2 := o.tu.trans t
  have fr := h.rp.foot
  have lo := o.lo
  have lo2 := o.lo2
  refine ⟨o.tw.turns t ?_, (h.ring t2).1, ?_, (h.ring t2).2⟩
  · intro k e hf
    have := (fr k (.inr e)).2
    rcases hf with hf | hf <;> omega
  · intro k hk hf
    have := (h.rm.foot k hf).2
    rcases hk with hk | hk <;> omega
end

theorem odd16 (y : Int) (h : (y.tmod 2 == 0) = false) : (y.tmod 16 == 0) = false := by
  rw [beq_eq_false_iff_ne] at *
  intro h16
  apply h
  have h1 : (16 : Int) ∣ y := Int.dvd_of_tmod_eq_zero h16
  exact Int.tmod_eq_zero_of_dvd (Int.dvd_trans (by decide) h1)

set_option maxRecDepth 100000 in
set_option maxHeartbeats 4000000 in
theorem plays_any (m : Nat) (a : Option Addr) (n cp : Nat) (Z : List Int) (w : World) (hm : m ≤ 16) (hn : n ≤ 80) (hU : At w a n Z) :
    Calls Try.prog 3 #[.int .i64 m, .slice a n cp] w fun e w' => e = .returned (.bool true) ∧ Below w.heap.size w w' := by
  have HU : Hid (At w a n Z) := hU
  clear hU
  have g1 : decide (80 < (n : Int)) = false := decide_eq_false (by omega)
  go_enter Try.func3, Try.ntmps3
  go_wp2_with fail
  refine (known_true w).mono ?_
  rintro e w1 ⟨rfl, T1⟩
  go_wp2_with fail
  refine (new_ok w.heap.size m w1 T1.size hm).mono ?_
  rintro e w2 ⟨rb, c, rfl, h2, t2, _, _⟩
  have T2 := T1.trans t2
  go_wp2_with fail
  refine (rnew_ok w.heap.size m w2 T2.size hm).mono ?_
  rintro e w3 ⟨mb, rfl, m3, t3, l3⟩
  have B3 : Both w w3 rb c mb m (.slice none 0 0) [] := by
    refine ⟨h2.keep t3, m3, ?_, T2.trans t3⟩
    intro k hk hf
    have := (h2.foot k hk).2
    rcases hf with hf | hf
    · omega
    · simp [Value.ownBlock] at hf
  clear T1 h2 t2 T2 m3 t3 l3
  go_wp2_with fail
  go_loopw [5, 9] (fun r i wr => ∃ (j rb c : Nat) (lv : Value) (row : List Int), r = .pointer (some ⟨rb, 0, none⟩) ∧ i = .int .i64 j ∧ j ≤ n ∧ Both w wr rb c mb m lv row) (fun _ i _ => n - (intOf i).toNat)
  case atStart => exact ⟨0, rb, c, _, [], rfl, rfl, by omega, B3⟩
  case round =>
    clear B3
    obtain ⟨j, rb, c, lv, row, rfl, rfl, hj, BB⟩ := hrel
    by_cases hjn : j < n
    · obtain ⟨y, b, f, rfl, hcell, _, _, _⟩ := HU.out.get j hjn
      have gx := BB.tu.cell hcell (cell_lt hcell) (fun x => x)
      have b1 : (j : Int) < (n : Int) := by omega
      have b2 : (0 : Int) ≤ (j : Int) := by omega
      rcases hq : (y.tmod 2 == 0) with _ | _
      · have h16 : (y.tmod 16 == 0) = false := odd16 y hq
        go_wp2_with fail
        refine (pop_any BB.rp).mono ?_
        rintro e w4 ⟨rfl, h4, t4⟩
        have R4 := BB.ring t4
        go_wp2_with fail
        refine (rpop_any R4.1 R4.2.size).mono ?_
        rintro e w5 ⟨rfl, lv5, o5⟩
        have BN := BB.next h4 t4 o5
        have f1 : (popV row != popV row) = false := by simp
        have f2 : (popB row != popB row) = false := by simp
        clear BB h4 t4 R4 o5
        go_wp2_with fail
        obtain ⟨aL, cL, hlv, _⟩ := BN.rm.own.at
        subst hlv
        clear gx hcell
        generalize row.tail = rowN at *
        have BF := BN.keep (Turns.refl (fun _ => False) _).drew
        have v0 := BN.rm.c0
        have v1 := BN.rm.c1
        have hmm := BN.rp.len
        have hlR : rowN.length ≤ 1000000 := by omega
        have c1 : ((rowN.length : Int) != (rowN.length : Int)) = false := by simp
        have c2 : (((m - rowN.length : Nat) : Int) != ((m - rowN.length : Nat) : Int)) = false := by simp
        have c3 : IntKind.i64.wrap ((m : Int) - (rowN.length : Int)) = ((m - rowN.length : Nat) : Int) := by rw [IntKind.wrap_i64]; omega
        go_region_held3 (fun w' => w'.cell? ⟨mb, 0, none⟩ = some (.int .i64 m) ∧ w'.cell? ⟨mb, 1, none⟩ = some (.slice aL rowN.length cL)) (go_keep) (first | (go_at_call 15; refine (len_any BF.rp).mono ?_; rintro e w6 ⟨rfl, hw⟩; subst w6; have v2 := BF.rm.c0; have v3 := BF.rm.c1) | (go_at_call 16; refine (room_any BF.rp).mono ?_; rintro e w7 ⟨rfl, t7⟩; have B7 := BF.keep t7; have v4 := B7.rm.c0; have v5 := B7.rm.c1) | (go_at_call 18; refine (all_any B7.rp B7.tu.size).mono ?_; rintro e w8 ⟨v8, rfl, i8, HV8, h8, t8⟩; have B8 := B7.all h8 t8; obtain ⟨a8, d8, rfl, p8⟩ := i8.at; have v6 := B8.rm.c0; have v7 := B8.rm.c1) | (go_at_call 17; obtain ⟨_, _, e8, q8⟩ := B8.rm.own.at; cases e8; refine (row_yes p8 q8 hlR).mono ?_; rintro e w9 ⟨rfl, t9⟩; have B9 := B8.keep t9; have v8 := B9.rm.c0; have v9 := B9.rm.c1) | fail)
        go_wp2_with fail
        go_roundw
        case rel => exact ⟨j + 1, _, _, _, rowN, rfl, by go_num, by omega, B9⟩
        case measure => simp [intOf]; omega
      · rcases h16 : (y.tmod 16 == 0) with _ | _
        · go_wp2_with fail
          have BD := BB.keep (Turns.refl (fun _ => False) _).drew
          have f1 : (pushB m row != pushB m row) = false := by simp
          go_region_held3 (fun w' => w'.cell? ⟨b, f + j, none⟩ = some (.int .i64 y)) (go_keep) (first | (go_at_call 11; refine (push_any y BD.rp).mono ?_ ; rintro e w4 ⟨rfl, h4, t4⟩; have R4 := BD.ring t4; have z4 := R4.2.cell hcell (cell_lt hcell) (fun x => x)) | (go_at_call 13; refine (rpush_any y R4.1 R4.2.size).mono ?_; rintro e w5 ⟨rfl, lv5, o5⟩; have BN := BD.next h4 t4 o5; have z5 := BN.tu.cell hcell (cell_lt hcell) (fun x => x)) | fail)
          clear BD h4 t4 R4 o5 z4 z5
          clear BB
          go_wp2_with fail
          obtain ⟨aL, cL, hlv, _⟩ := BN.rm.own.at
          subst hlv
          clear gx hcell
          generalize pushR m row y = rowN at *
          have BF := BN.keep (Turns.refl (fun _ => False) _).drew
          have v0 := BN.rm.c0
          have v1 := BN.rm.c1
          have hmm := BN.rp.len
          have hlR : rowN.length ≤ 1000000 := by omega
          have c1 : ((rowN.length : Int) != (rowN.length : Int)) = false := by simp
          have c2 : (((m - rowN.length : Nat) : Int) != ((m - rowN.length : Nat) : Int)) = false := by simp
          have c3 : IntKind.i64.wrap ((m : Int) - (rowN.length : Int)) = ((m - rowN.length : Nat) : Int) := by rw [IntKind.wrap_i64]; omega
          go_region_held3 (fun w' => w'.cell? ⟨mb, 0, none⟩ = some (.int .i64 m) ∧ w'.cell? ⟨mb, 1, none⟩ = some (.slice aL rowN.length cL)) (go_keep) (first | (go_at_call 15; refine (len_any BF.rp).mono ?_; rintro e w6 ⟨rfl, hw⟩; subst w6; have v2 := BF.rm.c0; have v3 := BF.rm.c1) | (go_at_call 16; refine (room_any BF.rp).mono ?_; rintro e w7 ⟨rfl, t7⟩; have B7 := BF.keep t7; have v4 := B7.rm.c0; have v5 := B7.rm.c1) | (go_at_call 18; refine (all_any B7.rp B7.tu.size).mono ?_; rintro e w8 ⟨v8, rfl, i8, HV8, h8, t8⟩; have B8 := B7.all h8 t8; obtain ⟨a8, d8, rfl, p8⟩ := i8.at; have v6 := B8.rm.c0; have v7 := B8.rm.c1) | (go_at_call 17; obtain ⟨_, _, e8, q8⟩ := B8.rm.own.at; cases e8; refine (row_yes p8 q8 hlR).mono ?_; rintro e w9 ⟨rfl, t9⟩; have B9 := B8.keep t9; have v8 := B9.rm.c0; have v9 := B9.rm.c1) | fail)
          go_wp2_with fail
          go_roundw
          case rel => exact ⟨j + 1, _, _, _, rowN, rfl, by go_num, by omega, B9⟩
          case measure => simp [intOf]; omega
        · go_wp2_with fail
          refine (twin_any BB.rp BB.tu.size).mono ?_
          rintro e wA ⟨tb, rfl, tc, oA⟩
          go_wp2_with fail
          refine (push_any 1 oA.old).mono ?_
          rintro e wB ⟨rfl, hB, tB⟩
          go_wp2_with fail
          refine (pop_any hB).mono ?_
          rintro e wC ⟨rfl, hC, tC⟩
          go_wp2_with fail
          refine (pop_any hC).mono ?_
          rintro e wD ⟨rfl, hD, tD⟩
          have BT := BB.twin oA ((tB.trans tC).trans tD)
          have gy := BT.tu.cell hcell (cell_lt hcell) (fun x => x)
          clear BB oA hB tB hC tC hD tD gx
          have gx := gy
          clear gy
          go_wp2_with fail
          have BD := BT.keep (Turns.refl (fun _ => False) _).drew
          have f1 : (pushB m row != pushB m row) = false := by simp
          go_region_held3 (fun w' => w'.cell? ⟨b, f + j, none⟩ = some (.int .i64 y)) (go_keep) (first | (go_at_call 11; refine (push_any y BD.rp).mono ?_ ; rintro e w4 ⟨rfl, h4, t4⟩; have R4 := BD.ring t4; have z4 := R4.2.cell hcell (cell_lt hcell) (fun x => x)) | (go_at_call 13; refine (rpush_any y R4.1 R4.2.size).mono ?_; rintro e w5 ⟨rfl, lv5, o5⟩; have BN := BD.next h4 t4 o5; have z5 := BN.tu.cell hcell (cell_lt hcell) (fun x => x)) | fail)
          clear BD h4 t4 R4 o5 z4 z5
          clear BT
          go_wp2_with fail
          obtain ⟨aL, cL, hlv, _⟩ := BN.rm.own.at
          subst hlv
          clear gx hcell
          generalize pushR m row y = rowN at *
          have BF := BN.keep (Turns.refl (fun _ => False) _).drew
          have v0 := BN.rm.c0
          have v1 := BN.rm.c1
          have hmm := BN.rp.len
          have hlR : rowN.length ≤ 1000000 := by omega
          have c1 : ((rowN.length : Int) != (rowN.length : Int)) = false := by simp
          have c2 : (((m - rowN.length : Nat) : Int) != ((m - rowN.length : Nat) : Int)) = false := by simp
          have c3 : IntKind.i64.wrap ((m : Int) - (rowN.length : Int)) = ((m - rowN.length : Nat) : Int) := by rw [IntKind.wrap_i64]; omega
          go_region_held3 (fun w' => w'.cell? ⟨mb, 0, none⟩ = some (.int .i64 m) ∧ w'.cell? ⟨mb, 1, none⟩ = some (.slice aL rowN.length cL)) (go_keep) (first | (go_at_call 15; refine (len_any BF.rp).mono ?_; rintro e w6 ⟨rfl, hw⟩; subst w6; have v2 := BF.rm.c0; have v3 := BF.rm.c1) | (go_at_call 16; refine (room_any BF.rp).mono ?_; rintro e w7 ⟨rfl, t7⟩; have B7 := BF.keep t7; have v4 := B7.rm.c0; have v5 := B7.rm.c1) | (go_at_call 18; refine (all_any B7.rp B7.tu.size).mono ?_; rintro e w8 ⟨v8, rfl, i8, HV8, h8, t8⟩; have B8 := B7.all h8 t8; obtain ⟨a8, d8, rfl, p8⟩ := i8.at; have v6 := B8.rm.c0; have v7 := B8.rm.c1) | (go_at_call 17; obtain ⟨_, _, e8, q8⟩ := B8.rm.own.at; cases e8; refine (row_yes p8 q8 hlR).mono ?_; rintro e w9 ⟨rfl, t9⟩; have B9 := B8.keep t9; have v8 := B9.rm.c0; have v9 := B9.rm.c1) | fail)
          go_wp2_with fail
          go_roundw
          case rel => exact ⟨j + 1, _, _, _, rowN, rfl, by go_num, by omega, B9⟩
          case measure => simp [intOf]; omega
    · have b1 : ¬ (j : Int) < (n : Int) := by omega
      go_wp2_with fail
      go_ret
      exact ⟨rfl, BB.tu.below (fun _ x => x.elim) (Nat.le_refl _)⟩
end Go.Proofs.Ytlegbdbepjcloaa
