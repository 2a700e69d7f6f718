/- TimerLater, walked. -/
import Derived.Test.YtohgjdefgabfeaaLaterP
namespace Go.Proofs.Ytohgjdefgabfeaa
open Go.RowKit Tm

theorem Try.info2 : (Try.prog.info? 2).map (fun i => (i.zero, i.size, i.bytes)) = some (some (.int .i64 0), 1, 8) := by kernel_rfl
theorem made_zeros (n : Nat) : (madeCells (Value.int .i64 0).cells (n * 1)).toList = (List.replicate n 0).map intV := by
  rw [Nat.mul_one]
  apply List.ext_getElem
  · simp [madeCells]
  · intro i h1 h2
    simp [madeCells, Value.cells, intV]
    rw [Nat.mod_one]
    rfl

/-- The timer, the row of times, the array of rows. -/
structure LSt (B : Nat) (w0 w : World) (tb : Nat) (rv : Value) (db n : Nat) (D : List Int) (g : Nat) (vs : List Value) (row : List Du) (L : Nat → List Int) : Prop where
  t : TP 57 53 B w tb rv row
  du : w.ownsRow B 2 1 (.slice (some ⟨db, 0, none⟩) n n) n (D.map intV)
  wa : WantP B w g vs L
  a1 : ¬ Foot tb rv db
  a2 : ¬ FootW g vs db
  a3 : ∀ k, Foot tb rv k → ¬ FootW g vs k
  tu : Turns (fun _ => False) w0 w

section
variable {B : Nat} {w0 w w' : World} {tb : Nat} {rv rv' : Value} {db n : Nat} {D : List Int} {g : Nat} {vs : List Value} {row row' : List Du} {L : Nat → List Int}
theorem LSt.dlen (h : LSt B w0 w tb rv db n D g vs row L) : D.length = n := by have := h.du.1; simpa using this
theorem LSt.keep (h : LSt B w0 w tb rv db n D g vs row L) (t : Turns (fun _ => False) w w') : LSt B w0 w' tb rv db n D g vs row L :=
  ⟨h.t.keep t, owns_turns h.du t (fun _ _ x => x), h.wa.turns t (fun _ x => x.elim), h.a1, h.a2, h.a3, h.tu.trans t⟩
theorem LSt.tim (h : LSt B w0 w tb rv db n D g vs row L) (hB : w0.heap.size ≤ B) (o : Out 57 53 B w w' tb rv rv' row') : LSt B w0 w' tb rv' db n D g vs row' L := by
  refine ⟨o.tp, owns_turns h.du o.tu (fun k hk hf => ?_), h.wa.turns o.tu (fun k hf => h.a3 k hf), ?_, h.a2, ?_, h.t.frame hB h.tu o.tu⟩
  · simp [Value.ownBlock] at hk; subst hk; exact h.a1 hf
  · intro hf
    rcases o.foot _ hf with h1 | h1
    · exact h.a1 h1
    · have := (h.du.lt db rfl).2; omega
  · intro k hf hw
    rcases o.foot _ hf with h1 | h1
    · exact h.a3 k h1 hw
    · have := (h.wa.foot k hw).2; omega
theorem LSt.sto (h : LSt B w0 w tb rv db n D g vs row L) (hB : w0.heap.size ≤ B) (i : Nat) (v : Int) : LSt B w0 (w.setCell ⟨db, i, none⟩ (.int .i64 v)) tb rv db n (D.set i v) g vs row L := by
  have t : Turns (fun k => k = db) w (w.setCell ⟨db, i, none⟩ (.int .i64 v)) := Turns.setCell (S := fun k => k = db) (Turns.refl _ w) (p := ⟨db, i, none⟩) rfl _
  have hd := h.du.lt db rfl
  refine ⟨h.t.turns t (fun k e hf => h.a1 (e ▸ hf)), ?_, h.wa.turns t (fun k e hf => h.a2 (e ▸ hf)), h.a1, h.a2, h.a3, h.tu.next t (fun k hk e => by omega)⟩
  have := (h.du.stored i (.int .i64 v)).1
  rw [List.map_set]
  exact this
theorem LSt.put {w2 : World} (h : LSt B w0 w tb rv db n D g vs row L) (hB : w0.heap.size ≤ B) (x : Nat) (hx : x < 80) (i : Int) (g2 n2 c2 : Nat) (L' : Nat → List Int)
    (i2 : IntRow B w2 (.slice (some ⟨g2, 0, none⟩) n2 c2) (L x ++ [i])) (t2 : Turns (fun k => (vs.getD x nilV).ownBlock = some k) w w2) (e2 : (vs.getD x nilV).ownBlock = some g2 ∨ w.heap.size ≤ g2)
    (hL : ∀ y, L' y = if x = y then L x ++ [i] else L y) :
    w2.cell? ⟨g, x, none⟩ = some (vs.getD x nilV) ∧ w2.frozen? ⟨g, x, none⟩ = false ∧ LSt B w0 (w2.setCell ⟨g, x, none⟩ (.slice (some ⟨g2, 0, none⟩) n2 c2)) tb rv db n D g (vs.set x (.slice (some ⟨g2, 0, none⟩) n2 c2)) row L' := by
  obtain ⟨p1, p2, p3, p4, p5⟩ := h.wa.put x hx i g2 n2 c2 L' i2 t2 e2 hL
  refine ⟨p1, p2, h.t.turns p4 (fun k hf hk => h.a3 k hk hf), owns_turns h.du p4 (fun k hk hf => ?_), p3, h.a1, ?_, ?_, h.tu.next p4 (fun k hk hf => by have := (h.wa.foot k hf).1; omega)⟩
  · simp [Value.ownBlock] at hk; subst hk; exact h.a2 hf
  · intro hf
    rcases p5 _ hf with h1 | h1
    · exact h.a2 h1
    · have := (h.du.lt db rfl).2; omega
  · intro k hk hf
    rcases p5 _ hf with h1 | h1
    · exact h.a3 k hk h1
    · have := (h.t.foot k hk).2; omega
theorem LSt.cd (h : LSt B w0 w tb rv db n D g vs row L) (i : Nat) (hi : i < n) : w.cell? ⟨db, i, none⟩ = some (.int .i64 (D.getD i 0)) := by
  have hl := h.dlen
  rw [h.du.cellAt i (by omega), List.getElem?_map]
  simp [hl, hi, intV]
theorem LSt.fd (h : LSt B w0 w tb rv db n D g vs row L) (i : Nat) : w.frozen? ⟨db, i, none⟩ = false := h.du.frozenAt i
end

/-- What is told of truths that came in. -/
def Bools (w : World) (a : Option Addr) (n : Nat) (G : Nat → Bool) : Prop := ∀ j, j < n → ∃ b f, a = some ⟨b, f, none⟩ ∧ w.cell? ⟨b, f + j, none⟩ = some (.bool (G j))

set_option maxHeartbeats 4000000 in
theorem later_any (a a' : Option Addr) (n cp n' cp' : Nat) (Z : List Int) (G : Nat → Bool) (w : World) (hn : n ≤ 40) (hnn : n ≤ n') (hU : U8s w a n Z) (hG : Bools w a' n G) :
    Calls Try.prog 5 #[.slice a n cp, .slice a' n' cp'] w fun e w' => e = .returned (.bool true) ∧ Below w.heap.size w w' := by
  obtain ⟨i2, hi, hz0, hz1, hz2⟩ := info_parts Try.info2
  have HU : Hid (U8s w a n Z) := hU
  have HG : Hid (Bools w a' n G) := hG
  clear hU hG
  have g1 : decide (40 < (n : Int)) = false := decide_eq_false (by omega)
  have g2 : decide ((n' : Int) < (n : Int)) = false := decide_eq_false (by omega)
  go_enter Try.func5, Try.ntmps5
  go_wp2_with fail
  refine (known_true w).mono ?_
  rintro e w1 ⟨rfl, T1⟩
  go_wp2_with fail
  refine (new_any w.heap.size w1 T1.size).mono ?_
  rintro e w2 ⟨tb, rfl, h2, t2, _⟩
  have T2 := T1.trans t2
  go_wp2_with (first | (at_make; refine wpList_make_full _ rfl _ _ _ rfl w.heap.size 2 i2 _ 1 Try.underlying47 hi hz0 hz1 .i64 .i64 _ _ n rfl rfl rfl rfl (by rw [hz2]; omega) (by unfold maxLen; omega) T2.size ?_; intro w3 hown hgrow; rw [made_zeros] at hown; have t3 : Turns (fun _ => False) w2 w3 := Turns.grown hgrow (fun k h => by cases h)) | (refine wpList_alloc_want _ (by rfl) rfl w.heap.size (Nat.le_trans T2.size t3.size) ?_; intro w4 hwant t4))
  have hd3 := hown.lt w2.heap.size rfl
  have f2 := h2.foot
  have S0 : LSt w.heap.size w w4 tb (.slice none 0 0) w2.heap.size n (List.replicate n 0) w3.heap.size (List.replicate 80 nilV) (rowL Z 0 0) (fun _ => []) := by
    have nb : ∀ x, ((List.replicate 80 nilV).getD x nilV) = nilV := by
      intro x
      rw [List.getD_eq_getElem?_getD, List.getElem?_replicate]
      split <;> rfl
    refine ⟨(h2.keep t3).keep t4, owns_turns hown t4 (fun _ _ x => x), hwant, ?_, ?_, ?_, (T2.trans t3).trans t4⟩
    · intro hf; have := (f2 _ hf).2; omega
    · rintro (hf | ⟨x, _, hf⟩)
      · omega
      · rw [nb] at hf; simp [nilV, Value.ownBlock] at hf
    · intro k hk hf
      have h1 := (f2 k hk).2
      have h3 := t3.size
      rcases hf with hf | ⟨x, _, hf⟩
      · omega
      · rw [nb] at hf; simp [nilV, Value.ownBlock] at hf
  generalize w2.heap.size = db at *
  generalize w3.heap.size = g at *
  generalize List.replicate 80 nilV = vs0 at *
  clear h2 t2 T1 T2 t3 t4 hown hgrow hwant hd3 f2 hi hz0 hz1 hz2 i2
  go_loopw [8] (fun i wr => ∃ (c : Nat) (rv : Value) (D : List Int), i = .int .i64 c ∧ c ≤ n ∧ LSt w.heap.size w wr tb rv db n D g vs0 (rowL Z c c) (fun _ => []) ∧ Hid (∀ j, j < c → D.getD j 0 = (j : Int) + (40 + Z.getD j 0 % 30))) (fun i _ => n - (intOf i).toNat)
  case atStart => exact ⟨0, _, _, rfl, by omega, S0, fun j hj => by omega⟩
  case round =>
    obtain ⟨c, rv, D, rfl, hc, S, HD⟩ := hrel
    clear S0
    by_cases hcn : c < n
    · obtain ⟨b, f, rfl, hcell, hy0, hy1⟩ := HU.out c hcn
      have HE : Hid (entL Z (c + 1) c = ⟨(c : Int), 40 + Z.getD c 0 % 30⟩) := by
        show _ = _
        simp only [entL]
        congr 1
        omega
      have HL : Hid (lftB (rowL Z (c + 1) (c + 1)) (c : Int) = 40 + Z.getD c 0 % 30 ∧ hasB (rowL Z (c + 1) (c + 1)) (c : Int) = true) := rowL_left Z c
      have HY : Hid (Z.getD c 0 = Z.getD c 0) := rfl
      obtain ⟨y, hy⟩ : ∃ y, Z.getD c 0 = y := ⟨_, rfl⟩
      have HYY : Hid (Z.getD c 0 = y) := hy
      rw [hy] at hcell hy0 hy1 HE HL
      clear hy HY
      have HC : Hid (w.cell? ⟨b, f + c, none⟩ = some (.int .u8 y)) := hcell
      clear hcell
      have hem3 := Int.emod_nonneg y (show (30 : Int) ≠ 0 by decide)
      have hem4 := Int.emod_lt_of_pos y (show (0 : Int) < 30 by decide)
      have HFT : Hid (fitP (c : Int) (40 + y % 30)) := ⟨by omega, by omega, by omega, by omega⟩
      have b1 : (c : Int) < (n : Int) := by omega
      have b3 : (0 : Int) ≤ (c : Int) := by omega
      go_wp2_with fail
      refine (tick_any S.t S.tu.size).mono ?_
      rintro e w5 ⟨d5, rfl, _, rv5, o5, _⟩
      rw [rowL_rest Z c (by omega)] at o5
      have S5 := S.tim (Nat.le_refl _) o5
      have gx := S5.tu.cell HC.out (cell_lt HC.out) (fun x => x)
      go_wp2_with fail
      refine (put_ok (c : Int) (40 + y % 30) S5.t HFT.out (rowL_has Z (c + 1) c) (by rw [rowL_len]; omega) S5.tu.size).mono ?_
      rintro e w6 ⟨rfl, rv6, o6⟩
      rw [← HE.out, ← rowL_succ] at o6
      have S6 := S5.tim (Nat.le_refl _) o6
      have gd := S6.cd c hcn
      have gf := S6.fd c
      have S7 := S6.sto (Nat.le_refl _) c ((c : Int) + (40 + y % 30))
      go_wp2_with fail
      refine (left_any (c : Int) S7.t).mono ?_
      rintro e w8 ⟨rfl, t8⟩
      rw [HL.out.1, HL.out.2]
      have S8 := S7.keep t8
      have q1 : (40 + y % 30 != 40 + y % 30) = false := by simp
      go_wp2_with fail
      go_roundw
      case rel =>
        refine ⟨c + 1, _, _, by go_num, by omega, S8, ?_⟩
        intro j hj
        have hdl := S.dlen
        rw [List.getD_eq_getElem?_getD, List.getElem?_set]
        by_cases hjc : c = j
        · subst hjc
          rw [HYY.out]
          simp [hdl, hcn]
        · rw [if_neg hjc, ← List.getD_eq_getElem?_getD]
          exact HD.out j (by omega)
      case measure => simp [intOf]; omega
    · have hcc : c = n := by omega
      subst hcc
      clear hcn
      have S2 : LSt w.heap.size w wr tb rv db c D g vs0 (rowG Z G c 0) (wantL Z G c 0) := by
        rw [rowG_zero]
        exact S
      clear S
      go_wp2_with fail
      go_loopw [12] (fun i wr => ∃ (d : Nat) (rv : Value) (vs : List Value), i = .int .i64 d ∧ d ≤ c ∧ LSt w.heap.size w wr tb rv db c D g vs (rowG Z G c d) (wantL Z G c d)) (fun i _ => c - (intOf i).toNat)
      case atStart => exact ⟨0, _, _, rfl, by omega, S2⟩
      case round =>
        clear S2
        obtain ⟨d, rv, vs, rfl, hd, S⟩ := hrel
        by_cases hdc : d < c
        · obtain ⟨b, f, rfl, hcell⟩ := HG.out d hdc
          have gx := S.tu.cell hcell (cell_lt hcell) (fun x => x)
          clear hcell
          have b1 : (d : Int) < (c : Int) := by omega
          have b2 : (d : Int) < (n' : Int) := by omega
          have b3 : (0 : Int) ≤ (d : Int) := by omega
          by_cases hg : G d = true
          · have HCN : Hid (canE (rowG Z G c d) (d : Int) = 0 ∧ canR (rowG Z G c d) (d : Int) = rowG Z G c (d + 1)) := rowG_can Z G c d hdc hg
            have HW : Hid (wantL Z G c (d + 1) = wantL Z G c d) := by show _ = _; funext x; exact wantL_gone Z G c d x hg
            rw [hg] at gx
            clear hg
            go_wp2_with fail
            refine (can_any (d : Int) S.t).mono ?_
            rintro e w5 ⟨rfl, rv5, o5⟩
            rw [HCN.out.1]
            rw [HCN.out.2] at o5
            have S5 := S.tim (Nat.le_refl _) o5
            go_wp2_with fail
            go_roundw
            case rel =>
              refine ⟨d + 1, rv5, vs, by go_num, by omega, ?_⟩
              rw [HW.out]
              exact S5
            case measure => simp [intOf]; omega
          · have hg' : G d = false := by simpa using hg
            have hent : (entL Z c d).left = 41 + Z.getD d 0 % 30 + (d : Int) - (c : Int) := rfl
            have hm := modL Z d
            have hdd := HD.out d hdc
            obtain ⟨X, hX⟩ : ∃ X : Nat, (X : Int) = 41 + Z.getD d 0 % 30 + (d : Int) - (c : Int) := ⟨(41 + Z.getD d 0 % 30 + (d : Int) - (c : Int)).toNat, by omega⟩
            have hX80 : X < 80 := by omega
            have HX1 : Hid (1 ≤ X) := by show _ ≤ _; omega
            have HL : Hid (∀ y, wantL Z G c (d + 1) y = if X = y then wantL Z G c d X ++ [(d : Int)] else wantL Z G c d y) := by
              intro y
              by_cases hxy : X = y
              · subst hxy
                rw [if_pos rfl]
                exact wantL_in Z G c d X hg' (by rw [hent, hX])
              · rw [if_neg hxy]
                exact wantL_out Z G c d y (by rw [hent, ← hX]; omega)
            have HRS : Hid (rowG Z G c (d + 1) = rowG Z G c d) := rowG_stay Z G c d hg'
            rw [hg'] at gx
            have gd := S.cd d hdc
            have hv : D.getD d 0 - (c : Int) + 1 = (X : Int) := by rw [hdd]; omega
            obtain ⟨v, hvv⟩ : ∃ v, D.getD d 0 = v := ⟨_, rfl⟩
            rw [hvv] at gd hv
            have hvb : (0 : Int) ≤ v ∧ v ≤ 1000 := by omega
            obtain ⟨v1, v2⟩ := hvb
            have gw := S.wa.cell X hX80
            have hir := S.wa.row X hX80
            obtain ⟨u, hu⟩ : ∃ u, vs.getD X nilV = u := ⟨_, rfl⟩
            rw [hu] at gw hir
            have HUU : Hid (vs.getD X nilV = u) := hu
            have hwl := wantL_len Z G c d X
            have b4 : (1 : Int) ≤ (X : Int) := by have := HX1.out; omega
            have b5 : (X : Int) < 80 := by omega
            have hgl := (S.wa.foot g (.inl rfl)).2
            clear hg hg' hent hm hdd hX hu hvv
            go_wp2_with (at_builtin; refine wpList_append_int _ (by rfl) _ _ rfl w.heap.size u (wantL Z G c d X) (d : Int) wr rfl (by rfl) wr.heap.size rfl (by rfl) hir (by omega) S.tu.size ?_; intro g5 c5 w5 i5 t5 n5; have R := S.put (Nat.le_refl _) X hX80 (d : Int) g5 _ c5 (wantL Z G c (d + 1)) i5 (by rw [HUU.out]; exact t5) (by rw [HUU.out]; exact n5) HL.out; have r1 := R.1.trans (congrArg some HUU.out); have r2 := R.2.1)
            go_roundw
            case rel =>
              have R2 := R.2.2
              rw [← HRS.out] at R2
              exact ⟨d + 1, rv, _, by go_num, by omega, R2⟩
            case measure => simp [intOf]; omega
        · have hdd : d = c := by omega
          subst hdd
          clear hdc
          have hpos := S.t.pos
          have S3 : LSt w.heap.size w wr tb rv db d D g vs (aft ((0 : Nat) : Int) (rowG Z G d d)) (wantL Z G d d) := by rw [show ((0 : Nat) : Int) = 0 from rfl, aft_zero hpos]; exact S
          have HLT : Hid (∀ x ∈ rowG Z G d d, x.left ≤ 79) := rowG_lt Z G d d
          have HDW : Hid (∀ j : Nat, dueR (aft (j : Int) (rowG Z G d d)) = wantL Z G d d (j + 1)) := by
            intro j
            rw [due_aft, ← due_want]
            rfl
          have HWL : Hid (∀ x, (wantL Z G d d x).length ≤ d) := wantL_len Z G d d
          generalize rowG Z G d d = R at *
          generalize wantL Z G d d = WL at *
          clear S HD HU HG
          go_wp2_with fail
          go_loopw [14] (fun i wr => ∃ (j : Nat) (rv : Value), i = .int .i64 ((j : Int) + 1) ∧ j ≤ 79 ∧ LSt w.heap.size w wr tb rv db d D g vs (aft (j : Int) R) WL) (fun i _ => 80 - (intOf i).toNat)
          case atStart => exact ⟨0, rv, rfl, by omega, S3⟩
          case round =>
            clear S3
            obtain ⟨j, rv, rfl, hj, S⟩ := hrel
            by_cases hj9 : j < 79
            · have b1 : (j : Int) + 1 < 80 := by omega
              have b2 : (0 : Int) ≤ (j : Int) + 1 := by omega
              have b5 : ((j : Int) + 1).toNat = j + 1 := by omega
              have gw := S.wa.cell (j + 1) (by omega)
              obtain ⟨u, hu⟩ : ∃ u, vs.getD (j + 1) nilV = u := ⟨_, rfl⟩
              have HUU : Hid (vs.getD (j + 1) nilV = u) := hu
              rw [hu] at gw
              clear hu
              have hwl := HWL.out (j + 1)
              have Sd := S.keep (Turns.refl (fun _ => False) wr).drew
              go_wp2_with fail
              go_region_held3 (fun w' => w'.cell? ⟨g, j + 1, none⟩ = some u) (go_keep) (first | (go_at_call 14; refine (tick_any Sd.t Sd.tu.size).mono ?_; rintro e w5 ⟨d5, rfl, i5, rv5, o5, l5⟩; rw [HDW.out j] at i5; rw [rest_aft] at o5; have S5 := Sd.tim (Nat.le_refl _) o5; have z1 := S5.wa.cell (j + 1) (by omega); rw [HUU.out] at z1) | (go_at_call 13; have h13 := S5.wa.row (j + 1) (by omega); rw [HUU.out] at h13; refine (ints_any i5 h13 (by omega)).mono ?_; rintro e w6 ⟨rfl, t6⟩; have S6 := S5.keep t6; have z2 := S6.wa.cell (j + 1) (by omega); rw [HUU.out] at z2))
              go_wp2_with fail
              go_roundw
              case rel => exact ⟨j + 1, rv5, by go_num, by omega, by simpa using S6⟩
              case measure => simp [intOf]; omega
            · have hjj : j = 79 := by omega
              subst hjj
              clear hj hj9
              have ht := S.t
              rw [aft_end _ _ (fun y hy => by have := HLT.out y hy; simpa using this)] at ht
              go_wp2_with fail
              refine (len_any ht).mono ?_
              rintro e w5 ⟨rfl, hw⟩
              subst w5
              go_wp2_with fail
              go_ret
              exact ⟨rfl, S.tu.below (fun _ x => x.elim) (Nat.le_refl _)⟩

set_option maxHeartbeats 400000 in
theorem later_skip (a a' : Option Addr) (n cp n' cp' : Nat) (w : World) (h : 40 < (n : Int) ∨ (n' : Int) < (n : Int)) :
    Calls Try.prog 5 #[.slice a n cp, .slice a' n' cp'] w fun e w' => e = .returned (.bool true) ∧ Below w.heap.size w w' := by
  by_cases h1 : 40 < (n : Int)
  · have g1 : decide (40 < (n : Int)) = true := decide_eq_true h1
    clear h h1
    go_enter Try.func5, Try.ntmps5
    go_wp2_with fail
    refine (known_true w).mono ?_
    rintro e w1 ⟨rfl, T1⟩
    go_wp2_with fail
    go_ret
    exact ⟨rfl, T1.below (fun _ x => x.elim) (Nat.le_refl _)⟩
  · have g1 : decide (40 < (n : Int)) = false := decide_eq_false h1
    have g2 : n' < n := by omega
    clear h h1
    go_enter Try.func5, Try.ntmps5
    go_wp2_with fail
    refine (known_true w).mono ?_
    rintro e w1 ⟨rfl, T1⟩
    go_wp2_with fail
    go_ret
    exact ⟨rfl, T1.below (fun _ x => x.elim) (Nat.le_refl _)⟩
end Go.Proofs.Ytohgjdefgabfeaa
