/- RtaMore, walked: a row of loads behind an empty one, one load turned, who has less. -/
import Derived.Test.YtlkbphogpbcjfaaDoorRtK
import Derived.Test.YtlkbphogpbcjfaaDoorRtB
import Derived.Test.YtlkbphogpbcjfaaDoorRtQ
namespace Go.Proofs.YtlkbphogpbcjfaaDoor
open Go.RowKit Go.Sort

theorem flatL_one (l : List LoadD) : ∀ u ∈ flatL l, u.oneCell' = true := by
  intro u hu
  obtain ⟨x, _, h⟩ := List.mem_flatMap.1 hu
  simp [ldV] at h
  rcases h with rfl | rfl <;> rfl
theorem flatL_cells {w : World} {b f : Nat} : ∀ (l : List LoadD) (o : Nat), (∀ (j : Nat) (x : LoadD), l[j]? = some x → w.cell? ⟨b, f + (o + j) * 2, none⟩ = some (.int .i64 x.per) ∧ w.cell? ⟨b, f + (o + j) * 2 + 1, none⟩ = some (.int .i64 x.cost)) → ∀ j u, (flatL l)[j]? = some u → w.cell? ⟨b, f + o * 2 + j, none⟩ = some u
  | [], o, h, j, u, hu => by simp [flatL] at hu
  | x :: l, o, h, 0, u, hu => by
    obtain ⟨h1, _⟩ := h 0 x rfl
    simp [flatL, ldV] at hu
    rw [← hu]
    simpa using h1
  | x :: l, o, h, 1, u, hu => by
    obtain ⟨_, h1⟩ := h 0 x rfl
    simp [flatL, ldV] at hu
    rw [← hu]
    simpa using h1
  | x :: l, o, h, j + 2, u, hu => by
    have ih := flatL_cells (w := w) (b := b) (f := f) l (o + 1) (fun i y hy => by
      have := h (i + 1) y (by simpa using hy)
      rw [show o + (i + 1) = o + 1 + i by omega] at this
      exact this) j u (by simpa [flatL, ldV] using hu)
    rw [show f + o * 2 + (j + 2) = f + (o + 1) * 2 + j by omega]
    exact ih
/-- A row behind an empty one of the call's own. -/
theorem wpList_append_lds {t e : TypeId} (kk : LoadOf t e) (w : World) {ops : Array Oper} {rest : List Oper} {o : Oper} {a : Act} {Q : Exit → Act → World → Prop} (hw : Region.wanted o (yielded ops a.tmps) = true) (s x : Operand)
    (ho : o.op = .call { callee := .builtin .append, args := #[s, x], argTypes := #[t, t] })
    (Bd : Nat) (l : List LoadD) (b f n c eb : Nat) (hn : n = l.length) (hl1 : 1 ≤ l.length) (hl : l.length ≤ 1000) (hs : a.eval s = .slice (some ⟨eb, 0, none⟩) 0 0) (hse : w.ownsRow Bd e 2 (.slice (some ⟨eb, 0, none⟩) 0 0) 0 []) (hx : a.eval x = .slice (some ⟨b, f, none⟩) n c)
    (hA : AtL w (some ⟨b, f, none⟩) l) (hB : Bd ≤ w.heap.size)
    (h : ∀ g cap w', LdRow e Bd w' (.slice (some ⟨g, 0, none⟩) n cap) l → Turns (fun k => k = eb) w w' → wpList Tryd.prog ops Q rest (a.put o.dst (.slice (some ⟨g, 0, none⟩) n cap)) w') :
    wpList Tryd.prog ops Q (o :: rest) a w := by
  subst hn
  refine wpList_step fun K' hK => ?_
  rw [if_pos hw]
  obtain ⟨i, hi, hz0, hz1, hz2⟩ := info_parts kk.inf
  have hcc : ∀ j u, (flatL l)[j]? = some u → w.cell? (Addr.add ⟨b, f, none⟩ j) = some u := by
    intro j u hu
    rw [Addr.add_lit]
    have := flatL_cells (w := w) (b := b) (f := f) l 0 (fun i y hy => by
      obtain ⟨b', f', e', h1, h2⟩ := hA i y hy
      cases e'
      rw [Nat.zero_add]
      exact ⟨h1, h2⟩) j u hu
    rw [Nat.zero_mul, Nat.add_zero] at this
    exact this
  obtain ⟨v', w', hr, k1, k2, k3, k4⟩ := run_append_own_at (P := Tryd.prog) w Bd t o.type e i _ 2 16 kk.und hi hz0 hz1 hz2 rfl (by omega) _ 0 [] hse ⟨b, f, none⟩ l.length c (flatL l) (flatL_len l) hcc (flatL_one l) (by unfold maxLen; omega) (by omega) hB
  rw [Nat.zero_add, List.nil_append] at k1
  obtain ⟨g, cap, rfl⟩ := own_form k1 (fun e => by have := k3.1 e; have := this.2; omega)
  have tt : Turns (fun k => k = eb) w w' := Turns.grown k2 (fun k e => by simp [Value.ownBlock] at e; exact e.symm)
  unfold Oper.wp
  simp [execOp, ho, resolve, invoke, builtin, hs, hx, hr, Result.andThen]
  exact hK _ _ (h g cap w' k1 tt)
theorem flatL_set : ∀ (l : List LoadD) (k : Nat) (x : LoadD) (p : Int), l[k]? = some x → (flatL l).set (k * 2) (.int .i64 p) = flatL (l.set k ⟨p, x.cost⟩)
  | [], _, _, _, h => by simp at h
  | y :: r, 0, x, p, h => by
    simp at h
    subst h
    simp [flatL, ldV]
  | y :: r, k + 1, x, p, h => by
    have ih := flatL_set r k x p (by simpa using h)
    simp only [flatL, List.flatMap_cons, List.set_cons_succ] at ih ⊢
    rw [← ih, List.set_append_right _ _ (by simp [ldV]; omega)]
    congr 2
    simp [ldV]
    omega
/-- One period turned. -/
theorem LdRow.set {e : TypeId} {Bd g n c : Nat} {w : World} {l : List LoadD} (h : LdRow e Bd w (.slice (some ⟨g, 0, none⟩) n c) l) (hn : n = l.length) {k : Nat} {x : LoadD} (hx : l[k]? = some x) (p : Int) : LdRow e Bd (w.setCell ⟨g, k * 2, none⟩ (.int .i64 p)) (.slice (some ⟨g, 0, none⟩) n c) (l.set k ⟨p, x.cost⟩) := by
  subst hn
  have h2 := (World.ownsRow.stored h (k * 2) (.int .i64 p)).1
  rw [flatL_set l k x p hx] at h2
  unfold LdRow
  rw [List.length_set]
  exact h2
theorem LdRow.at {e : TypeId} {Bd n c : Nat} {a : Option Addr} {w : World} {l : List LoadD} (h : LdRow e Bd w (.slice a n c) l) : n = l.length ∧ AtL w a l := by
  obtain ⟨a', c', e', _, hA, _⟩ := h.view
  simp only [Value.slice.injEq] at e'
  obtain ⟨rfl, rfl, rfl⟩ := e'
  exact ⟨rfl, hA⟩
theorem LdRow.cells {e : TypeId} {Bd g n c : Nat} {w : World} {l : List LoadD} (h : LdRow e Bd w (.slice (some ⟨g, 0, none⟩) n c) l) {k : Nat} {x : LoadD} (hx : l[k]? = some x) : w.cell? ⟨g, k * 2, none⟩ = some (.int .i64 x.per) ∧ w.frozen? ⟨g, k * 2, none⟩ = false := by
  obtain ⟨b, f, e', h1, _⟩ := h.at.2 k x hx
  cases e'
  rw [Nat.zero_add] at h1
  obtain ⟨rfl, -⟩ := h.at
  exact ⟨h1, World.ownsRow.frozenAt h (k * 2)⟩
theorem LessL.app {l : List LoadD} (h : ∀ x ∈ l, 1 ≤ x.per ∧ 0 ≤ x.cost) {y : LoadD} (hy : 1 ≤ y.per ∧ 0 ≤ y.cost) : LessL l (l ++ [y]) := by
  induction l with
  | nil => exact .nil _ (fun x hx => by rw [List.nil_append, List.mem_singleton] at hx; rw [hx]; exact hy)
  | cons x l ih =>
    have hx := h x (List.mem_cons_self ..)
    exact .cons x x l _ hx.1 hx.2 (Int.le_refl _) (Int.le_refl _) (ih (fun z hz => h z (List.mem_cons_of_mem _ hz)))
theorem LessL.put : ∀ {l : List LoadD} (_ : ∀ x ∈ l, 1 ≤ x.per ∧ 0 ≤ x.cost) (k : Nat) {x : LoadD} (_ : l[k]? = some x) {p : Int} (_ : 1 ≤ p) (_ : p ≤ x.per), LessL l (l.set k ⟨p, x.cost⟩)
  | [], _, k, x, hx, _, _, _ => by simp at hx
  | y :: l, h, 0, x, hx, p, h1, h2 => by
    simp at hx
    subst hx
    have hy := h y (List.mem_cons_self ..)
    exact .cons y ⟨p, y.cost⟩ l l h1 hy.2 h2 (Int.le_refl _) (LessL.refl l (fun z hz => h z (List.mem_cons_of_mem _ hz)))
  | y :: l, h, k + 1, x, hx, p, h1, h2 => by
    have hy := h y (List.mem_cons_self ..)
    exact .cons y y l _ hy.1 hy.2 (Int.le_refl _) (Int.le_refl _) (LessL.put (fun z hz => h z (List.mem_cons_of_mem _ hz)) k (by simpa using hx) h1 h2)
set_option maxHeartbeats 8000000 in
set_option maxRecDepth 20000 in
theorem rmo_law (own : Int) (ho0 : 0 ≤ own) (ho1 : own ≤ 255) (a : Option Addr) (c : Nat) (Z : List Int) (more : Int) (hm0 : 0 ≤ more) (hm1 : more ≤ 255) (which : Int) (hw0 : 0 ≤ which) (hw1 : which ≤ 255) (w : World) (hr : Rdy w) (hA : AtB w a Z) (hZ : ∀ z ∈ Z, 0 ≤ z ∧ z ≤ 255) :
    Calls Tryd.prog 5 #[.int .u8 own, .slice a Z.length c, .int .u8 more, .int .u8 which] w fun e w' => e = .returned (.bool true) ∧ Kept w w' := by
  have HA : Hid (AtB w a Z) := hA
  have HZ : Hid (∀ z ∈ Z, 0 ≤ z ∧ z ≤ 255) := hZ
  have hk := lknown_true w hr
  clear hr hA hZ
  go_enter Tryd.func5, Tryd.ntmps5
  go_wp2_with fail
  refine hk.mono ?_
  rintro e w1 ⟨rfl, K1⟩
  clear hk
  by_cases hl : (Z.length : Int) > 20
  · go_wp2_with fail
    go_ret
    exact ⟨rfl, K1⟩
  have hl2 : Z.length ≤ 20 := by omega
  obtain ⟨N, hN⟩ : ∃ N, Z.length / 2 = N := ⟨_, rfl⟩
  have HN : Hid (2 * N ≤ Z.length ∧ Z.length ≤ 2 * N + 1 ∧ N ≤ 10) := ⟨by omega, by omega, by omega⟩
  clear hN
  go_wp2_with fail
  go_loopg [9, 10] N (fun gk v i wr => ∃ (k m : Nat) (v0 : Value) (W : World), W = wr ∧ v0 = v ∧ i = .int .i64 m ∧ k + gk = N ∧ Hid (m = 2 * k) ∧ Hid (LdRow 39 w1.heap.size W v0 (prL ldB Z k)) ∧ Hid (Kept w1 W) ∧ Hid (k = 0 → v0 = .slice none 0 0))
  case atStart => exact ⟨0, 0, _, _, rfl, rfl, rfl, by omega, rfl, LdRow.nil _ _ _, Kept.refl _, fun _ => rfl⟩
  case round =>
    obtain ⟨k, m, v0, W, hW, hv, rfl, hk, HM, HR, HK, HV0⟩ := hrel
    subst hW
    subst hv
    have KW := K1.trans HK.out
    have hnn := HN.out
    have hmm := HM.out
    by_cases hkn : k < N
    · have b1 : (m : Int) + 1 < (Z.length : Int) := by omega
      have b2 : (0 : Int) ≤ (m : Int) := by omega
      have b3 : (m : Int) < (Z.length : Int) := by omega
      have b4 : (0 : Int) ≤ (m : Int) + 1 := by omega
      obtain ⟨g, rfl⟩ : ∃ g, gk = g + 1 := ⟨gk - 1, by omega⟩
      obtain ⟨x0, hx0⟩ : ∃ y, Z[m]? = some y := ⟨_, List.getElem?_eq_getElem (by omega)⟩
      obtain ⟨x1, hx1⟩ : ∃ y, Z[m + 1]? = some y := ⟨_, List.getElem?_eq_getElem (by omega)⟩
      have q0 := HZ.out x0 (List.mem_of_getElem? hx0)
      have q1 := HZ.out x1 (List.mem_of_getElem? hx1)
      obtain ⟨y, hy⟩ : ∃ y, x1 % 8 = y := ⟨_, rfl⟩
      have hyb : 0 ≤ y ∧ y ≤ 7 := by omega
      have e5 : x1.tmod 8 = y := by rw [Int.tmod_eq_emod_of_nonneg q1.1, hy]
      have HPR : Hid (prL ldB Z (k + 1) = prL ldB Z k ++ [⟨2 + x0, y⟩]) := by
        show _ = _
        rw [prL_succ, ← hmm, List.getD_eq_getElem?_getD, List.getD_eq_getElem?_getD, hx0, hx1, ← hy]
        rfl
      obtain ⟨b, f, rfl, c0w⟩ := HA.out m x0 hx0
      obtain ⟨b', f', e', c1w⟩ := HA.out (m + 1) x1 hx1
      cases e'
      have c0 := KW.cell c0w
      have c1 := KW.cell c1w
      have hbw : b < W.heap.size := cell_lt c0
      have hlen : (prL ldB Z k).length ≤ 1000000 := by rw [prL_len]; omega
      have HRD : Hid (LdRow 39 w1.heap.size W.drew v0 (prL ldB Z k)) := HR.out.kept ((Kept.refl W).drew)
      have KD : Hid (Kept w1 W.drew) := HK.out.drew
      have hBD := KD.out.size
      have hvn : ∀ q, v0.ownBlock = some q → w1.heap.size ≤ q := fun q hq => (World.ownsRow.lt HR.out q hq).1
      have HCW : Hid (∀ wx, Kept w1 wx → wx.cell? ⟨b, f + m, none⟩ = some (.int .u8 x0) ∧ wx.cell? ⟨b, f + (m + 1), none⟩ = some (.int .u8 x1)) := fun wx kx => ⟨(K1.trans kx).cell c0w, (K1.trans kx).cell c1w⟩
      clear hx0 hx1 hmm hnn c0w c1w HR HK KW hy
      go_wp2_with fail
      have e1 : IntKind.i64.wrap ((m : Int) + 1) = (m : Int) + 1 := by simp [IntKind.wrap, IntKind.bits, IntKind.signed]; omega
      have e2 : IntKind.i64.wrap (2 + x0) = 2 + x0 := by simp [IntKind.wrap, IntKind.bits, IntKind.signed]; omega
      have e3 : ((m : Int) + 1).toNat = m + 1 := by omega
      have e4 : IntKind.i64.wrap x0 = x0 := by simp [IntKind.wrap, IntKind.bits, IntKind.signed]; omega
      have e6 : IntKind.i64.wrap y = y := by simp [IntKind.wrap, IntKind.bits, IntKind.signed]; omega
      go_region_held3 (fun w' => w'.cell? ⟨b, f + m, none⟩ = some (.int .u8 x0) ∧ w'.cell? ⟨b, f + (m + 1), none⟩ = some (.int .u8 x1)) (first | assumption | go_keep) (first | (refine step_append_ld lApi _ (by rfl) _ _ (by rfl) w1.heap.size v0 (prL ldB Z k) ⟨2 + x0, y⟩ _ rfl W.drew (by rfl) (by rfl) W.drew.heap.size (by rfl) (by rfl) HRD.out hlen hBD ?_; intro g5 c5 w5 R5 t5 hg5; have K5 : Kept w1 w5 := t5.kept KD.out (fun i hi => hvn i hi); have z0 := HCW.out w5 K5) | fail)
      clear e1 e2 e3 e4 e5 e6
      all_goals go_wp2_with fail
      go_roundg g
      case rel =>
        rw [← HPR.out] at R5
        exact ⟨k + 1, m + 2, .slice (some ⟨g5, 0, none⟩) ((prL ldB Z k).length + 1) c5, _, rfl, rfl, by go_num, by omega, (by have := HM.out; show _ = _; omega), R5, K5, fun h => absurd h (by omega)⟩
      case measure => omega
    · obtain rfl : k = N := by omega
      have b5 : (m : Int) ≤ 20 := by omega
      have b1 : ¬ (m : Int) + 1 < (Z.length : Int) := by omega
      have hk10 : k ≤ 10 := by omega
      have HOK : Hid (∀ x ∈ prL ldB Z k, 1 ≤ x.per ∧ 0 ≤ x.cost ∧ x.cost ≤ 7) := ldB_ok HZ.out k
      have HPB : Hid (∀ x ∈ prL ldB Z k, x.per ≤ 257) := prL_mem HZ.out (P := fun x => x.per ≤ 257) (fun x y h1 h2 h3 h4 => by simp only [ldB]; omega)
      have HOK2 : Hid (∀ x ∈ prL ldB Z k, 1 ≤ x.per ∧ 0 ≤ x.cost) := fun x hx => ⟨(HOK.out x hx).1, (HOK.out x hx).2.1⟩
      have hLk := prL_len ldB Z k
      obtain ⟨L, hL⟩ : ∃ L, prL ldB Z k = L := ⟨_, rfl⟩
      rw [hL] at HR HOK HPB HOK2 hLk
      by_cases hk0 : k = 0
      · have hv0 := HV0.out hk0
        subst hv0
        obtain rfl : L = [] := List.eq_nil_of_length_eq_zero (by omega)
        have h1 := fix_any none 0 [] own 5000 W (AtL.nil _ _) (by simp) (by omega)
        obtain ⟨⟨z1, z2, z3⟩, hz⟩ : ∃ z, fixT own [] 5000 = z := ⟨_, rfl⟩
        rw [hz] at h1
        have HF : Hid (fixT own [] 5000 = (z1, z2, z3)) := hz
        have HKX := HK
        clear hz hL hLk HR HK hmm hnn hk10 HM HV0 HN hk hk0
        go_wp2_with fail
        refine h1.mono ?_
        rintro e w2 ⟨rfl, T2⟩
        simp only [trio]
        have K2 := KW.trans T2
        have KE1 : Hid (Kept w1 w2) := HKX.out.trans T2
        have K3 : Kept w (w2.alloc (.cells #[] 39)) := K2.alloc _
        have HB3 : Hid (LdRow 39 w1.heap.size (w2.alloc (.cells #[] 39)) (.slice (some ⟨w2.heap.size, 0, none⟩) 0 0) []) := World.ownsRow_lit (base := w1.heap.size) (e := 39) (size := 2) w2 #[] 0 KE1.out.size (by unfold maxLen; omega) (by simp)
        have HBW : Hid (w1.heap.size ≤ (w2.alloc (.cells #[] 39)).heap.size) := (KE1.out.alloc _).size
        clear h1 T2 KW HKX
        have hLk : ([] : List LoadD).length = 0 := rfl
        have hwh : which % 3 = 0 ∨ which % 3 = 1 ∨ which % 3 = 2 := by omega
        rcases hwh with hw | hw | hw
        · go_wp2_with (first | fail)
          have hML : ([] : List LoadD).length = 0 := hLk
          have h2 := fix_any (some ⟨w2.heap.size, 0, none⟩) 0 ([]) (own + more) 5000 (w2.alloc (.cells #[] 39)) (HB3.out.at.2) (by rw [hML]; omega) (by omega)
          rw [hML] at h2
          have HLS : Hid (LessL [] ([])) := LessL.refl [] HOK2.out
          have herr2 := fixT_err (C := 7) (own := own + more) (most := 5000) (l := []) (by omega) (by omega) (by omega) (HOK.out) (by rw [hML]; omega)
          obtain ⟨⟨q1, q2, q3⟩, hq⟩ : ∃ z, fixT (own + more) ([]) 5000 = z := ⟨_, rfl⟩
          rw [hq] at h2 herr2
          have HQ : Hid (fixT (own + more) ([]) 5000 = (q1, q2, q3)) := hq
          clear hq hML
          refine h2.mono ?_
          rintro e w9 ⟨rfl, T9⟩
          simp only [trio]
          have K9 := K3.trans T9
          clear h2 T9
          simp only [Prod.mk.injEq] at herr2
          rcases herr2 with h | ⟨rfl, rfl, rfl⟩ | ⟨rfl, rfl, rfl⟩
          rotate_left
          · go_wp2_with fail
            go_ret
            exact ⟨rfl, K9⟩
          · go_wp2_with fail
            go_ret
            exact ⟨rfl, K9⟩
          · subst h
            obtain ⟨x, n', e', hx, hcase⟩ := fixT_less HLS.out ho0 (show own ≤ own + more by omega) (by omega) (by omega) HQ.out
            rw [HF.out] at hx
            simp only [Prod.mk.injEq] at hx
            obtain ⟨rfl, rfl, rfl⟩ := hx
            rcases hcase with ⟨hz3, hle⟩ | hz3
            · have hge : q1 ≥ z1 := by omega
              subst hz3
              clear HQ HLS
              go_wp2_with fail
              go_ret
              exact ⟨rfl, K9⟩
            · subst hz3
              clear HQ HLS
              go_wp2_with fail
              go_ret
              exact ⟨rfl, K9⟩
        · obtain ⟨y, hy⟩ : ∃ y, more % 2 = y := ⟨_, rfl⟩
          have hyb : 0 ≤ y ∧ y ≤ 1 := by omega
          have hll : ([] : List LoadD).length ≤ 1000000 := by rw [hLk]; omega
          go_wp2_with (first | (at_builtin; refine wpList_append_ld lApi _ (by rfl) _ _ (by rfl) w1.heap.size (.slice (some ⟨w2.heap.size, 0, none⟩) 0 0) [] ⟨3, y⟩ _ rfl (w2.alloc (.cells #[] 39)) rfl (by rfl) (w2.heap.size + 1) (by simp) (by rfl) HB3.out hll HBW.out ?_; intro g6 c6 w6 R6 t6 hg6; have K6 : Kept w w6 := t6.kept K3 (fun i hi => (by have h9 := (World.ownsRow.lt HB3.out i hi).1; have h8 := K1.size; omega)); have HB6 : Hid (LdRow 39 w1.heap.size w6 (.slice (some ⟨g6, 0, none⟩) (([] : List LoadD).length + 1) c6) (([] : List LoadD) ++ [(⟨3, y⟩ : LoadD)])) := R6; clear t6 R6) | fail)
          have hML : (([] : List LoadD) ++ [(⟨3, y⟩ : LoadD)]).length = 1 := by rw [List.length_append, hLk]; rfl
          have h2 := fix_any (some ⟨g6, 0, none⟩) c6 (([] : List LoadD) ++ [(⟨3, y⟩ : LoadD)]) (own) 5000 w6 (HB6.out.at.2) (by rw [hML]; omega) (by omega)
          rw [hML] at h2
          have HLS : Hid (LessL [] (([] : List LoadD) ++ [(⟨3, y⟩ : LoadD)])) := LessL.app HOK2.out ⟨by simp, hyb.1⟩
          have herr2 := fixT_err (C := 7) (own := own) (most := 5000) (l := [] ++ [(⟨3, y⟩ : LoadD)]) (by omega) (by omega) (by omega) (by intro z hz; rcases List.mem_append.1 hz with h | h; exact HOK.out z h; rw [List.mem_singleton.1 h]; exact ⟨by simp, hyb.1, by simp only; omega⟩) (by rw [hML]; omega)
          obtain ⟨⟨q1, q2, q3⟩, hq⟩ : ∃ z, fixT (own) (([] : List LoadD) ++ [(⟨3, y⟩ : LoadD)]) 5000 = z := ⟨_, rfl⟩
          rw [hq] at h2 herr2
          have HQ : Hid (fixT (own) (([] : List LoadD) ++ [(⟨3, y⟩ : LoadD)]) 5000 = (q1, q2, q3)) := hq
          clear hq hML hy
          refine h2.mono ?_
          rintro e w9 ⟨rfl, T9⟩
          simp only [trio]
          have K9 := K6.trans T9
          clear h2 T9
          simp only [Prod.mk.injEq] at herr2
          rcases herr2 with h | ⟨rfl, rfl, rfl⟩ | ⟨rfl, rfl, rfl⟩
          rotate_left
          · go_wp2_with fail
            go_ret
            exact ⟨rfl, K9⟩
          · go_wp2_with fail
            go_ret
            exact ⟨rfl, K9⟩
          · subst h
            obtain ⟨x, n', e', hx, hcase⟩ := fixT_less HLS.out ho0 (show own ≤ own by omega) (by omega) (by omega) HQ.out
            rw [HF.out] at hx
            simp only [Prod.mk.injEq] at hx
            obtain ⟨rfl, rfl, rfl⟩ := hx
            rcases hcase with ⟨hz3, hle⟩ | hz3
            · have hge : q1 ≥ z1 := by omega
              subst hz3
              clear HQ HLS
              go_wp2_with fail
              go_ret
              exact ⟨rfl, K9⟩
            · subst hz3
              clear HQ HLS
              go_wp2_with fail
              go_ret
              exact ⟨rfl, K9⟩
        · go_wp2_with (first | fail)
          have hML : ([] : List LoadD).length = 0 := hLk
          have h2 := fix_any (some ⟨w2.heap.size, 0, none⟩) 0 ([]) (own) 5000 (w2.alloc (.cells #[] 39)) (HB3.out.at.2) (by rw [hML]; omega) (by omega)
          rw [hML] at h2
          have HLS : Hid (LessL [] ([])) := LessL.refl [] HOK2.out
          have herr2 := fixT_err (C := 7) (own := own) (most := 5000) (l := []) (by omega) (by omega) (by omega) (HOK.out) (by rw [hML]; omega)
          obtain ⟨⟨q1, q2, q3⟩, hq⟩ : ∃ z, fixT (own) ([]) 5000 = z := ⟨_, rfl⟩
          rw [hq] at h2 herr2
          have HQ : Hid (fixT (own) ([]) 5000 = (q1, q2, q3)) := hq
          clear hq hML
          refine h2.mono ?_
          rintro e w9 ⟨rfl, T9⟩
          simp only [trio]
          have K9 := K3.trans T9
          clear h2 T9
          simp only [Prod.mk.injEq] at herr2
          rcases herr2 with h | ⟨rfl, rfl, rfl⟩ | ⟨rfl, rfl, rfl⟩
          rotate_left
          · go_wp2_with fail
            go_ret
            exact ⟨rfl, K9⟩
          · go_wp2_with fail
            go_ret
            exact ⟨rfl, K9⟩
          · subst h
            obtain ⟨x, n', e', hx, hcase⟩ := fixT_less HLS.out ho0 (show own ≤ own by omega) (by omega) (by omega) HQ.out
            rw [HF.out] at hx
            simp only [Prod.mk.injEq] at hx
            obtain ⟨rfl, rfl, rfl⟩ := hx
            rcases hcase with ⟨hz3, hle⟩ | hz3
            · have hge : q1 ≥ z1 := by omega
              subst hz3
              clear HQ HLS
              go_wp2_with fail
              go_ret
              exact ⟨rfl, K9⟩
            · subst hz3
              clear HQ HLS
              go_wp2_with fail
              go_ret
              exact ⟨rfl, K9⟩
      · have hk1 : 1 ≤ L.length := by omega
        have hk9 : L.length ≤ 1000 := by omega
        obtain ⟨va, vc, rfl, hvc, A, -⟩ := HR.out.view
        obtain ⟨b, f, rfl, -, -⟩ := A 0 _ (List.getElem?_eq_getElem hk1)
        have HAV : Hid (AtL W (some ⟨b, f, none⟩) L) := A
        have h1 := fix_any (some ⟨b, f, none⟩) vc L own 5000 W A (by omega) (by omega)
        rw [hLk] at h1 ⊢
        obtain ⟨⟨z1, z2, z3⟩, hz⟩ : ∃ z, fixT own L 5000 = z := ⟨_, rfl⟩
        rw [hz] at h1
        have HF : Hid (fixT own L 5000 = (z1, z2, z3)) := hz
        have HKX := HK
        clear hz hL HR HK hmm hnn HM HV0 HN A hvc
        go_wp2_with fail
        refine h1.mono ?_
        rintro e w2 ⟨rfl, T2⟩
        simp only [trio]
        have K2 := KW.trans T2
        have KE1 : Kept w1 (w2.alloc (.cells #[] 39)) := (HKX.out.trans T2).alloc _
        have KE : Kept w (w2.alloc (.cells #[] 39)) := K2.alloc _
        have HAE : Hid (AtL (w2.alloc (.cells #[] 39)) (some ⟨b, f, none⟩) L) := (HAV.out.kept T2).kept ((Kept.refl w2).alloc _)
        have hBE := KE1.size
        have HSZ : Hid (w.heap.size ≤ w2.heap.size) := K2.size
        have hse : (w2.alloc (.cells #[] 39)).ownsRow w1.heap.size 39 2 (.slice (some ⟨w2.heap.size, 0, none⟩) 0 0) 0 [] := World.ownsRow_lit (base := w1.heap.size) (e := 39) (size := 2) w2 #[] 0 (HKX.out.trans T2).size (by unfold maxLen; omega) (by simp)
        clear h1 T2 KW HKX HAV KE1
        have hwh : which % 3 = 0 ∨ which % 3 = 1 ∨ which % 3 = 2 := by omega
        rcases hwh with hw | hw | hw
        · go_wp2_with (first | (at_builtin; refine wpList_append_lds lApi _ (by rfl) _ _ (by rfl) w1.heap.size L b f k vc w2.heap.size hLk.symm hk1 hk9 (by rfl) hse (by rfl) HAE.out hBE ?_; intro gb cb w4 R4 t4; have HB3 : Hid (LdRow 39 w1.heap.size w4 (.slice (some ⟨gb, 0, none⟩) k cb) L) := R4; have K3 : Kept w w4 := t4.kept KE (fun i e => (by have h8 := HSZ.out; omega)); have HBW : Hid (w1.heap.size ≤ w4.heap.size) := Nat.le_trans hBE t4.size; clear R4 t4) | fail)
          have hML : (L).length = k := hLk
          have h2 := fix_any (some ⟨gb, 0, none⟩) cb (L) (own + more) 5000 w4 (HB3.out.at.2) (by rw [hML]; omega) (by omega)
          rw [hML] at h2
          have HLS : Hid (LessL L (L)) := LessL.refl L HOK2.out
          have herr2 := fixT_err (C := 7) (own := own + more) (most := 5000) (l := L) (by omega) (by omega) (by omega) (HOK.out) (by rw [hML]; omega)
          obtain ⟨⟨q1, q2, q3⟩, hq⟩ : ∃ z, fixT (own + more) (L) 5000 = z := ⟨_, rfl⟩
          rw [hq] at h2 herr2
          have HQ : Hid (fixT (own + more) (L) 5000 = (q1, q2, q3)) := hq
          clear hq hML
          refine h2.mono ?_
          rintro e w9 ⟨rfl, T9⟩
          simp only [trio]
          have K9 := K3.trans T9
          clear h2 T9
          simp only [Prod.mk.injEq] at herr2
          rcases herr2 with h | ⟨rfl, rfl, rfl⟩ | ⟨rfl, rfl, rfl⟩
          rotate_left
          · go_wp2_with fail
            go_ret
            exact ⟨rfl, K9⟩
          · go_wp2_with fail
            go_ret
            exact ⟨rfl, K9⟩
          · subst h
            obtain ⟨x, n', e', hx, hcase⟩ := fixT_less HLS.out ho0 (show own ≤ own + more by omega) (by omega) (by omega) HQ.out
            rw [HF.out] at hx
            simp only [Prod.mk.injEq] at hx
            obtain ⟨rfl, rfl, rfl⟩ := hx
            rcases hcase with ⟨hz3, hle⟩ | hz3
            · have hge : q1 ≥ z1 := by omega
              subst hz3
              clear HQ HLS
              go_wp2_with fail
              go_ret
              exact ⟨rfl, K9⟩
            · subst hz3
              clear HQ HLS
              go_wp2_with fail
              go_ret
              exact ⟨rfl, K9⟩
        · obtain ⟨y, hy⟩ : ∃ y, more % 2 = y := ⟨_, rfl⟩
          have hyb : 0 ≤ y ∧ y ≤ 1 := by omega
          have hll : L.length ≤ 1000000 := by rw [hLk]; omega
          go_wp2_with (first | (at_builtin; refine wpList_append_lds lApi _ (by rfl) _ _ (by rfl) w1.heap.size L b f k vc w2.heap.size hLk.symm hk1 hk9 (by rfl) hse (by rfl) HAE.out hBE ?_; intro gb cb w4 R4 t4; have HB3 : Hid (LdRow 39 w1.heap.size w4 (.slice (some ⟨gb, 0, none⟩) k cb) L) := R4; have K3 : Kept w w4 := t4.kept KE (fun i e => (by have h8 := HSZ.out; omega)); have HBW : Hid (w1.heap.size ≤ w4.heap.size) := Nat.le_trans hBE t4.size; clear R4 t4) | (at_builtin; refine wpList_append_ld lApi _ (by rfl) _ _ (by rfl) w1.heap.size (.slice (some ⟨gb, 0, none⟩) k cb) L ⟨3, y⟩ _ rfl w4 rfl (by rfl) w4.heap.size rfl (by rfl) HB3.out hll HBW.out ?_; intro g6 c6 w6 R6 t6 hg6; have K6 : Kept w w6 := t6.kept K3 (fun i hi => (by have h9 := (World.ownsRow.lt HB3.out i hi).1; have h8 := K1.size; omega)); have HB6 : Hid (LdRow 39 w1.heap.size w6 (.slice (some ⟨g6, 0, none⟩) (L.length + 1) c6) (L ++ [(⟨3, y⟩ : LoadD)])) := R6; clear t6 R6) | fail)
          have hML : (L ++ [(⟨3, y⟩ : LoadD)]).length = k + 1 := by rw [List.length_append, hLk]; rfl
          have h2 := fix_any (some ⟨g6, 0, none⟩) c6 (L ++ [(⟨3, y⟩ : LoadD)]) (own) 5000 w6 (HB6.out.at.2) (by rw [hML]; omega) (by omega)
          rw [hML] at h2
          have HLS : Hid (LessL L (L ++ [(⟨3, y⟩ : LoadD)])) := LessL.app HOK2.out ⟨by simp, hyb.1⟩
          have herr2 := fixT_err (C := 7) (own := own) (most := 5000) (l := L ++ [(⟨3, y⟩ : LoadD)]) (by omega) (by omega) (by omega) (by intro z hz; rcases List.mem_append.1 hz with h | h; exact HOK.out z h; rw [List.mem_singleton.1 h]; exact ⟨by simp, hyb.1, by simp only; omega⟩) (by rw [hML]; omega)
          obtain ⟨⟨q1, q2, q3⟩, hq⟩ : ∃ z, fixT (own) (L ++ [(⟨3, y⟩ : LoadD)]) 5000 = z := ⟨_, rfl⟩
          rw [hq] at h2 herr2
          have HQ : Hid (fixT (own) (L ++ [(⟨3, y⟩ : LoadD)]) 5000 = (q1, q2, q3)) := hq
          clear hq hML hy
          refine h2.mono ?_
          rintro e w9 ⟨rfl, T9⟩
          simp only [trio]
          have K9 := K6.trans T9
          clear h2 T9
          simp only [Prod.mk.injEq] at herr2
          rcases herr2 with h | ⟨rfl, rfl, rfl⟩ | ⟨rfl, rfl, rfl⟩
          rotate_left
          · go_wp2_with fail
            go_ret
            exact ⟨rfl, K9⟩
          · go_wp2_with fail
            go_ret
            exact ⟨rfl, K9⟩
          · subst h
            obtain ⟨x, n', e', hx, hcase⟩ := fixT_less HLS.out ho0 (show own ≤ own by omega) (by omega) (by omega) HQ.out
            rw [HF.out] at hx
            simp only [Prod.mk.injEq] at hx
            obtain ⟨rfl, rfl, rfl⟩ := hx
            rcases hcase with ⟨hz3, hle⟩ | hz3
            · have hge : q1 ≥ z1 := by omega
              subst hz3
              clear HQ HLS
              go_wp2_with fail
              go_ret
              exact ⟨rfl, K9⟩
            · subst hz3
              clear HQ HLS
              go_wp2_with fail
              go_ret
              exact ⟨rfl, K9⟩
        · obtain ⟨kk, hkk⟩ : ∃ kk : Nat, which % (k : Int) = (kk : Int) := ⟨(which % (k : Int)).toNat, by have := Int.emod_nonneg which (show (k : Int) ≠ 0 by omega); omega⟩
          have hkl : kk < k := by have := Int.emod_lt_of_pos which (show (0 : Int) < (k : Int) by omega); omega
          have e1 : which.tmod (k : Int) = (kk : Int) := by rw [Int.tmod_eq_emod_of_nonneg hw0, hkk]
          have b7 : (kk : Int) < (k : Int) := by omega
          have b8 : (0 : Int) ≤ (kk : Int) := by omega
          have b9 : (k : Int) > 0 := by omega
          have b10 : ¬ (k : Int) = 0 := by omega
          obtain ⟨⟨pp, cc⟩, hx⟩ : ∃ x, L[kk]? = some x := ⟨_, List.getElem?_eq_getElem (by rw [hLk]; exact hkl)⟩
          obtain ⟨o1, o2, o3⟩ := HOK.out _ (List.mem_of_getElem? hx)
          simp only at o1 o2 o3
          have hpb := HPB.out _ (List.mem_of_getElem? hx)
          simp only at hpb
          have HX : Hid (L[kk]? = some ⟨pp, cc⟩) := hx
          obtain ⟨md, hmd⟩ : ∃ y, more % 9 = y := ⟨_, rfl⟩
          have hmb : 0 ≤ md ∧ md ≤ 8 := by omega
          have e2 : more.tmod 9 = md := by rw [Int.tmod_eq_emod_of_nonneg hm0, hmd]
          obtain ⟨pz, hpz⟩ : ∃ z, max 1 (pp - md) = z := ⟨_, rfl⟩
          have hz1 : 1 ≤ pz := by omega
          have hz2 : pz ≤ pp := by omega
          have hmx : ∀ z ∈ L.set kk ⟨pz, cc⟩, 1 ≤ z.per ∧ 0 ≤ z.cost ∧ z.cost ≤ 7 := by
            intro z hz
            rcases List.mem_or_eq_of_mem_set hz with h | h
            · exact HOK.out z h
            · rw [h]; exact ⟨hz1, o2, o3⟩
          have HLP : Hid (LessL L (L.set kk ⟨pz, cc⟩)) := LessL.put HOK2.out kk hx hz1 hz2
          have HMX : Hid (∀ z ∈ L.set kk ⟨pz, cc⟩, 1 ≤ z.per ∧ 0 ≤ z.cost ∧ z.cost ≤ 7) := hmx
          clear hx hmx
          go_wp2_with (first | (at_builtin; refine wpList_append_lds lApi _ (by rfl) _ _ (by rfl) w1.heap.size L b f k vc w2.heap.size hLk.symm hk1 hk9 (by rfl) hse (by rfl) HAE.out hBE ?_; intro gb cb w4 R4 t4; have HB3 : Hid (LdRow 39 w1.heap.size w4 (.slice (some ⟨gb, 0, none⟩) k cb) L) := R4; have K3 : Kept w w4 := t4.kept KE (fun i e => (by have h8 := HSZ.out; omega)); have HBW : Hid (w1.heap.size ≤ w4.heap.size) := Nat.le_trans hBE t4.size; clear R4 t4; obtain ⟨c5, f5⟩ := HB3.out.cells HX.out; simp only at c5) | fail)
          have HB6 : Hid (LdRow 39 w1.heap.size (w4.setCell ⟨gb, kk * 2, none⟩ (.int .i64 pz)) (.slice (some ⟨gb, 0, none⟩) k cb) (L.set kk ⟨pz, cc⟩)) := HB3.out.set hLk.symm HX.out pz
          have hgb := (World.ownsRow.lt HB3.out gb rfl).1
          have K6 : Kept w (w4.setCell ⟨gb, kk * 2, none⟩ (.int .i64 pz)) := (turn_set w4 gb (kk * 2) (.int .i64 pz)).kept K3 (fun i e => by have h8 := K1.size; omega)
          generalize (w4.setCell ⟨gb, kk * 2, none⟩ (.int .i64 pz)) = w6 at *
          have hML : (L.set kk ⟨pz, cc⟩).length = k := by rw [List.length_set]; exact hLk
          have h2 := fix_any (some ⟨gb, 0, none⟩) cb (L.set kk ⟨pz, cc⟩) (own) 5000 w6 (HB6.out.at.2) (by rw [hML]; omega) (by omega)
          rw [hML] at h2
          have HLS : Hid (LessL L (L.set kk ⟨pz, cc⟩)) := HLP.out
          have herr2 := fixT_err (C := 7) (own := own) (most := 5000) (l := L.set kk ⟨pz, cc⟩) (by omega) (by omega) (by omega) (HMX.out) (by rw [hML]; omega)
          obtain ⟨⟨q1, q2, q3⟩, hq⟩ : ∃ z, fixT (own) (L.set kk ⟨pz, cc⟩) 5000 = z := ⟨_, rfl⟩
          rw [hq] at h2 herr2
          have HQ : Hid (fixT (own) (L.set kk ⟨pz, cc⟩) 5000 = (q1, q2, q3)) := hq
          clear hq hML
          refine h2.mono ?_
          rintro e w9 ⟨rfl, T9⟩
          simp only [trio]
          have K9 := K6.trans T9
          clear h2 T9
          simp only [Prod.mk.injEq] at herr2
          rcases herr2 with h | ⟨rfl, rfl, rfl⟩ | ⟨rfl, rfl, rfl⟩
          rotate_left
          · go_wp2_with fail
            go_ret
            exact ⟨rfl, K9⟩
          · go_wp2_with fail
            go_ret
            exact ⟨rfl, K9⟩
          · subst h
            obtain ⟨x, n', e', hx, hcase⟩ := fixT_less HLS.out ho0 (show own ≤ own by omega) (by omega) (by omega) HQ.out
            rw [HF.out] at hx
            simp only [Prod.mk.injEq] at hx
            obtain ⟨rfl, rfl, rfl⟩ := hx
            rcases hcase with ⟨hz3, hle⟩ | hz3
            · have hge : q1 ≥ z1 := by omega
              subst hz3
              clear HQ HLS
              go_wp2_with fail
              go_ret
              exact ⟨rfl, K9⟩
            · subst hz3
              clear HQ HLS
              go_wp2_with fail
              go_ret
              exact ⟨rfl, K9⟩
end Go.Proofs.YtlkbphogpbcjfaaDoor
