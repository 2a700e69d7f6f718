/- HeapRaised answers true at every row of prios and whoever is raised. -/
import Derived.Test.YthlnbnklhajilaaAppd
namespace Go.Proofs.Ythlnbnklhajilaa
open Go.RowKit Hp

def entR (P : List Int) (j : Nat) : Ent := ⟨(j : Int), P.getD j 0, (j : Int)⟩

def notI (k : Int) (l : List Int) : List Int := l.filter (fun i => decide (i ≠ k))

theorem notI_snoc (k : Int) (l : List Int) (x : Int) : notI k (l ++ [x]) = if x = k then notI k l else notI k l ++ [x] := by
  unfold notI
  rw [List.filter_append]
  by_cases h : x = k
  · simp [h]
  · simp [h]

theorem notI_len (k : Int) (l : List Int) (d : Nat) : (notI k (l.take d)).length ≤ d := by
  have h1 := List.length_filter_le (fun i => decide (i ≠ k)) (l.take d)
  have h2 := List.length_take_le d l
  unfold notI
  omega

theorem intV_news (w : World) (x : Int) : ∀ j u, [intV x][j]? = some u → (w.alloc (.cells #[.int .i64 x] 3)).cell? ((⟨w.heap.size, 0, none⟩ : Addr).add j) = some u := by
  intro j u hu
  rw [Addr.add_lit, Nat.zero_add, World.cell?_alloc_at _ _ _ _ rfl]
  simpa [intV] using hu

theorem intV_one (l : List Int) : ∀ u ∈ l.map intV, u.oneCell' = true := by
  intro u hu
  simp only [List.mem_map] at hu
  obtain ⟨e, _, rfl⟩ := hu
  rfl

set_option maxHeartbeats 1000000 in
set_option maxRecDepth 100000 in
theorem raised_skip (a0 : Option Addr) (n c0 : Nat) (t : Int) (w : World) (h : (n : Int) < 1 ∨ 60 < (n : Int)) :
    Calls Try.prog 5 #[.slice a0 n c0, .int .u8 t] w fun e w' => e = .returned (.bool true) ∧ Below w.heap.size w w' := by
  by_cases h1 : (n : Int) < 1
  · go_enter Try.func5, Try.ntmps5
    go_wp2_with fail
    refine (known_true w).mono ?_
    rintro e w1 ⟨rfl, T1⟩
    go_wp2_with fail
    go_ret
    exact ⟨rfl, T1.below (fun _ h => h.elim) (Nat.le_refl _)⟩
  · have h2 : 60 < (n : Int) := by omega
    have h3 : decide ((n : Int) < 1) = false := decide_eq_false h1
    clear h h1
    go_enter Try.func5, Try.ntmps5
    go_wp2_with fail
    refine (known_true w).mono ?_
    rintro e w1 ⟨rfl, T1⟩
    go_wp2_with fail
    go_ret
    exact ⟨rfl, T1.below (fun _ h => h.elim) (Nat.le_refl _)⟩

set_option maxHeartbeats 4000000 in
set_option maxRecDepth 100000 in
theorem raised_some (b0 f0 n c0 : Nat) (t : Nat) (P : List Int) (w : World) (hn0 : 1 ≤ n) (hn : n ≤ 60) (ht : t ≤ 255)
    (hP : ∀ j, j < n → w.cell? ⟨b0, f0 + j, none⟩ = some (.int .u8 (P.getD j 0))) (bP : ∀ j, 0 ≤ P.getD j 0 ∧ P.getD j 0 ≤ 255) :
    Calls Try.prog 5 #[.slice (some ⟨b0, f0, none⟩) n c0, .int .u8 t] w fun e w' => e = .returned (.bool true) ∧ Below w.heap.size w w' := by
  have l0 := cell_lt (hP 0 (by omega))
  have CP : Hid (∀ j, j < n → w.cell? ⟨b0, f0 + j, none⟩ = some (.int .u8 (P.getD j 0))) := hP
  have BP : Hid (∀ j, 0 ≤ P.getD j 0 ∧ P.getD j 0 ≤ 255) := bP
  have L0 : Hid (b0 < w.heap.size) := l0
  obtain ⟨i3, hi, hz0, hz1, hz2⟩ := info_parts Try.info3
  clear hP bP l0
  have g1 : decide ((n : Int) < 1) = false := decide_eq_false (by omega)
  have g2 : decide (60 < (n : Int)) = false := decide_eq_false (by omega)
  obtain ⟨k, hk⟩ : ∃ k, t % n = k := ⟨_, rfl⟩
  have hkn : k < n := by rw [← hk]; exact Nat.mod_lt _ (by omega)
  have hki : (t : Int) % (n : Int) = (k : Int) := by rw [← hk]; simp
  clear hk
  go_enter Try.func5, Try.ntmps5
  go_wp2_with fail
  refine (known_true w).mono ?_
  rintro e w1 ⟨rfl, T1⟩
  go_wp2_with fail
  refine (new_good w.heap.size 60 w1 (by omega) (by omega) T1.size).mono ?_
  rintro e w2 ⟨hb, rfl, ab, h2, t2, _, _⟩
  have T2 := T1.trans t2
  go_wp2_with fail
  go_loopw [7] (fun i wr => ∃ (c : Nat) (rk : List Ent) (rv : Value), i = .int .i64 c ∧ c ≤ n ∧ HP w.heap.size wr hb rv ab 60 60 rk ∧ Ord rk ∧ Hid (rk.length = c) ∧ Hid (∀ x, x ∈ rk ↔ ∃ j, j < c ∧ x = entR P j) ∧ Turns (fun _ => False) w wr)
    (fun i _ => n - (intOf i).toNat)
  case atStart => exact ⟨0, [], _, rfl, by omega, h2, (fun i _ h => by cases h), rfl, (fun x => by simp), T2⟩
  case round =>
    obtain ⟨c, rk, rv, rfl, hc, hh, ho, HL, HM, T⟩ := hrel
    clear h2 T1 t2 T2
    by_cases hcn : c < n
    · obtain ⟨x, hx⟩ : ∃ x, P.getD c 0 = x := ⟨_, rfl⟩
      have gx := T.cell (CP.out c hcn) L0.out (fun h => h)
      have r1 := BP.out c
      rw [hx] at gx r1
      obtain ⟨r1a, r1b⟩ := r1
      have E1 : Hid (entR P c = ⟨(c : Int), x, (c : Int)⟩) := by show _ = _; unfold entR; rw [hx]
      clear hx
      have P01 : Hid (place rk (c : Int).toNat = 0) := by
        show _ = _
        rw [Int.toNat_natCast]
        apply place_zero
        intro z hz e
        obtain ⟨j, hj, rfl⟩ := (HM.out z).1 hz
        simp only [entR] at e
        omega
      have KN1 : Hid (knB 60 (c : Int) = true) := by show _ = _; simp [knB]; omega
      have b1' : (c : Int) < (n : Int) := by omega
      have b3' : (0 : Int) ≤ (c : Int) := by omega
      go_wp2_with fail
      refine (put_ok (c : Int) x (c : Int) hh KN1.out P01.out T.size).mono ?_
      rintro e w3 ⟨rfl, rv3, h3, t3, _⟩
      have T3 := hh.frame (Nat.le_refl _) T t3
      go_wp2_with fail
      go_roundw
      case rel =>
        refine ⟨c + 1, putR rk ⟨(c : Int), x, (c : Int)⟩, rv3, by go_num, by omega, h3, putR_ord ho _, ?_, ?_, T3⟩
        · show _ = _
          rw [putR_len, HL.out]
        · intro z
          rw [putR_mem, HM.out z, ← E1.out]
          constructor
          · rintro (⟨j, hj, rfl⟩ | rfl)
            · exact ⟨j, by omega, rfl⟩
            · exact ⟨c, by omega, rfl⟩
          · rintro ⟨j, hj, rfl⟩
            by_cases hjc : j = c
            · right; rw [hjc]
            · left; exact ⟨j, by omega, rfl⟩
      case measure => simp [intOf]; omega
    · have hcc : c = n := by omega
      subst hcc
      clear hcn
      have b0' : ¬ (c : Int) = 0 := by omega
      go_wp2_with fail
      refine (order_ints hh T.size).mono ?_
      rintro e w3 ⟨og, rfl, i3r, l3, t3⟩
      have T3 := T.trans t3
      have h3 := hh.turns t3 (fun _ h => h.elim)
      rw [HL.out] at i3r ⊢
      obtain ⟨LI, hLI⟩ : ∃ LI, (drn c rk).map (·.id) = LI := ⟨_, rfl⟩
      rw [hLI] at i3r
      have HLI : Hid ((drn c rk).map (·.id) = LI) := hLI
      have hLL : LI.length = c := by rw [← hLI, List.length_map, drain_len]
      have HLL : Hid (LI.length = c) := hLL
      clear hLI hLL
      go_wp2_with fail
      go_loopw [9, 11] (fun v i wr => ∃ d : Nat, i = .int .i64 d ∧ d ≤ c ∧ IntRow w3.heap.size wr v (notI k (LI.take d)) ∧ Turns (fun _ => False) w3 wr)
        (fun _ i _ => c - (intOf i).toNat)
      case atStart => exact ⟨0, rfl, by omega, World.ownsRow_nil _ _ _ _, Turns.refl _ _⟩
      case round =>
        obtain ⟨d, rfl, hd, hv, U⟩ := hrel
        by_cases hdc : d < c
        · obtain ⟨x, hx⟩ : ∃ x, LI.getD d 0 = x := ⟨_, rfl⟩
          have gx : wr.cell? ⟨og, d, none⟩ = some (.int .i64 x) := by
            have hrow := i3r.turns U (fun _ _ h => h)
            unfold IntRow at hrow
            rw [HLL.out] at hrow
            rw [hrow.cellAt d (by omega), List.getElem?_map]
            have hl : d < LI.length := by rw [HLL.out]; exact hdc
            rw [List.getElem?_eq_getElem hl]
            rw [← hx]
            simp [intV, List.getD_eq_getElem?_getD, hl]
          have hst : LI.take (d + 1) = LI.take d ++ [x] := by
            have hl : d < LI.length := by rw [HLL.out]; exact hdc
            rw [List.take_succ_eq_append_getElem hl, ← hx]
            simp [List.getD_eq_getElem?_getD, hl]
          have HST : Hid (LI.take (d + 1) = LI.take d ++ [x]) := hst
          have hll := notI_len k LI d
          clear hx hst
          generalize hg : notI k (LI.take d) = ll at hv hll
          have HG : Hid (notI k (LI.take d) = ll) := hg
          clear hg
          have b1' : (d : Int) < (c : Int) := by omega
          have b3' : (0 : Int) ≤ (d : Int) := by omega
          have hsz := U.size
          by_cases hxk : x = (k : Int)
          · have q1 : (x != (k : Int)) = false := by simp [hxk]
            have HXK : Hid (x = (k : Int)) := hxk
            clear hxk
            go_wp2_with fail
            go_roundw
            case rel =>
              refine ⟨d + 1, by go_num, by omega, ?_, U⟩
              rw [HST.out, notI_snoc, if_pos HXK.out, HG.out]
              exact hv
            case measure => simp [intOf]; omega
          · have q1 : (x != (k : Int)) = true := by rw [bne_iff_ne]; exact hxk
            have HXK : Hid (¬ x = (k : Int)) := hxk
            clear hxk
            have hnews := intV_news wr x
            go_wp2_with (at_builtin; refine wpList_append_own _ rfl _ _ _ rfl w3.heap.size 3 i3 _ 1 8 Try.underlying48 hi hz0 hz1 hz2 rfl (by omega) _ ll.length (ll.map intV) (by rfl) (hv.alloc _) ⟨wr.heap.size, 0, none⟩ 1 1 [intV x] (by rfl) rfl hnews (intV_one [x]) (by unfold maxLen; omega) (by omega) (by simp; omega) ?_; intro v' w' o' g' _)
            go_roundw
            case rel =>
              refine ⟨d + 1, by go_num, by omega, ?_, ?_⟩
              · rw [HST.out, notI_snoc, if_neg HXK.out, HG.out]
                unfold IntRow
                rw [List.length_append, List.map_append]
                exact o'
              · refine (U.alloc _).next (Turns.grown (S := fun j => _ = some j) g' (fun j hj => hj)) ?_
                intro j hj e
                have := (hv.lt j e).1
                omega
            case measure => simp [intOf]; omega
        · have hdd : d = c := by omega
          subst hdd
          clear hdc
          have hmem : entR P k ∈ rk := (HM.out _).2 ⟨k, hkn, rfl⟩
          obtain ⟨p, hp, hpe⟩ := mem_at hmem
          have hr := h3.turns U (fun _ h => h.elim)
          have T4 := T3.trans U
          have hpid : (at' rk p).id = (k : Int) := by rw [← hpe]; rfl
          have KN : Hid (knB 60 (k : Int) = true) := by show _ = _; simp [knB]; omega
          have PL : Hid (place rk (k : Int).toNat = (p : Int) + 1) := by
            show _ = _
            rw [Int.toNat_natCast]
            exact place_eq rk 60 k p hh.good hp hpid
          have PID : Hid ((at' rk p).id = (k : Int)) := hpid
          clear hmem hpe hpid
          go_wp2_with fail
          refine (set_ok (k : Int) 1000 p hr KN.out PL.out hp).mono ?_
          rw [show sink rk.length (rise p (setPrio rk p 1000) p) p = setR rk p 1000 from rfl]
          rintro e w4 ⟨rfl, h4, t4⟩
          have T5 := hr.frame (Nat.le_refl _) T4 t4
          have o4 := setR_ord ho p 1000 hp
          have hL1 : (setR rk p 1000).length = d := by rw [setR_len, HL.out]
          have F4 := h3.foot
          have v4 := hv.turns t4 (fun j e hf => by have := (hv.lt j e).1; have := (F4 j hf).2; omega)
          obtain ⟨r1, hr1⟩ : ∃ r1, setR rk p 1000 = r1 := ⟨_, rfl⟩
          have HR1 : Hid (setR rk p 1000 = r1) := hr1
          rw [hr1] at h4 o4 hL1
          have HL1 : Hid (r1.length = d) := hL1
          clear hr1 hL1
          go_wp2_with fail
          refine (order_ints h4 T5.size).mono ?_
          rintro e w5 ⟨oa, rfl, ia, la, t5⟩
          rw [HL1.out] at ia ⊢
          have T6 := T5.trans t5
          have h5 := h4.turns t5 (fun _ h => h.elim)
          have v5 := v4.turns t5 (fun _ _ h => h)
          have hpr : ∀ x, x ∈ rk → 0 ≤ x.prio ∧ x.prio ≤ 255 := by
            intro x hx
            obtain ⟨j, hj, rfl⟩ := (HM.out x).1 hx
            exact BP.out j
          have hA : (drn d r1).map (·.id) = (k : Int) :: notI k LI := by
            have g4 := h4.good
            rw [← HR1.out] at g4
            have := raised_first (p := p) (v := 1000) hh.good g4 ho hp (fun x hx => by have := hpr x hx; omega)
            rw [HR1.out, HL.out, PID.out] at this
            rw [this, List.map_cons, filter_ids, HLI.out]
            rfl
          have hm1 : ∀ x, x ∈ r1 ↔ x = ⟨(k : Int), 1000, (at' rk p).seq⟩ ∨ (x ∈ rk ∧ x.id ≠ (k : Int)) := by
            intro x
            rw [← HR1.out, setR_mem hh.good p 1000 hp, PID.out]
          obtain ⟨p1, hp1, hp1e⟩ := mem_at ((hm1 ⟨(k : Int), 1000, (at' rk p).seq⟩).2 (.inl rfl))
          have hp1id : (at' r1 p1).id = (k : Int) := by rw [← hp1e]
          have PL1 : Hid (place r1 (k : Int).toNat = (p1 : Int) + 1) := by
            show _ = _
            rw [Int.toNat_natCast]
            exact place_eq r1 60 k p1 h4.good hp1 hp1id
          have HA : Hid ((drn d r1).map (·.id) = (k : Int) :: notI k LI) := hA
          have PID1 : Hid ((at' r1 p1).id = (k : Int)) := hp1id
          have HPR1 : Hid (∀ x, x ∈ r1 → x.id ≠ (at' r1 p1).id → (-1 : Int) < x.prio) := by
            intro x hx hne
            rw [hp1id] at hne
            rcases (hm1 x).1 hx with rfl | ⟨h1, _⟩
            · exact absurd rfl hne
            · have := hpr x h1; omega
          clear hpr hA hm1 hp1e hp1id
          go_wp2_with fail
          refine (set_ok (k : Int) (-1) p1 h5 KN.out PL1.out hp1).mono ?_
          rw [show sink r1.length (rise p1 (setPrio r1 p1 (-1)) p1) p1 = setR r1 p1 (-1) from rfl]
          rintro e w6 ⟨rfl, h6, t6⟩
          have T7 := h5.frame (Nat.le_refl _) T6 t6
          have s4 := t4.size
          have s5 := t5.size
          have s3 := U.size
          have v6 := v5.turns t6 (fun j e hf => by have := (hv.lt j e).1; have := (F4 j hf).2; omega)
          have ia6 := ia.turns t6 (fun j e hf => by simp [Value.ownBlock] at e; have := (F4 j hf).2; omega)
          have hB : (drn d (setR r1 p1 (-1))).map (·.id) = notI k LI ++ [(k : Int)] := by
            have := lowered_last (p := p1) (v := -1) h4.good h6.good o4 hp1 HPR1.out
            rw [HL1.out, PID1.out] at this
            rw [this, List.map_append, filter_ids, HA.out]
            unfold notI
            simp
          have hL2 : (setR r1 p1 (-1)).length = d := by rw [setR_len, HL1.out]
          obtain ⟨r2, hr2⟩ : ∃ r2, setR r1 p1 (-1) = r2 := ⟨_, rfl⟩
          rw [hr2] at h6 hB hL2
          have HB : Hid ((drn d r2).map (·.id) = notI k LI ++ [(k : Int)]) := hB
          have HL2 : Hid (r2.length = d) := hL2
          clear hr2 hB hL2 s3 s4 s5
          go_wp2_with fail
          refine (order_ints h6 T7.size).mono ?_
          rintro e w7 ⟨ob, rfl, ib, lb, t7⟩
          rw [HL2.out] at ib ⊢
          have T8 := T7.trans t7
          have h7 := h6.turns t7 (fun _ h => h.elim)
          have v7 := v6.turns t7 (fun _ _ h => h)
          have ia7 := ia6.turns t7 (fun _ _ h => h)
          rw [HA.out] at ia7
          rw [HB.out] at ib
          have hOl := notI_len k LI d
          have htk : LI.take d = LI := List.take_of_length_le (by rw [HLL.out]; omega)
          rw [htk] at v7 hOl
          generalize notI k LI = O at v7 hOl ia7 ib
          clear ia ia6 v4 v5 v6 hv htk U T7 T6 T5 T4 T3 T
          have n1 : IntRow w.heap.size (w7.alloc (.cells #[.int .i64 (k : Int)] 3)) (.slice (some ⟨w7.heap.size, 0, none⟩) 1 1) [(k : Int)] := lit_ints w.heap.size w7 [(k : Int)] T8.size (by unfold maxLen; simp)
          have s8 := T8.size
          go_wp2_with (at_builtin; refine wpList_append_ints _ (by rfl) _ _ rfl w.heap.size w3.heap.size _ _ [(k : Int)] O (by rfl) (by rfl) n1 (v7.turns ((Turns.refl (fun _ => False) _).alloc _) (fun _ _ h => h)) (by simp; omega) (by simp; omega) ?_; intro v8 w8 o8 g8 _)
          have U8 : Turns (fun j => j = w7.heap.size) w7 w8 := ((Turns.refl _ _).alloc _).trans (Turns.grown g8 (fun j e => by simp [Value.ownBlock] at e; omega))
          have V8 : Turns (fun _ => False) w7 w8 := ⟨U8.os, U8.tape, U8.output, U8.size, fun j hj _ => U8.block j hj (by omega)⟩
          have ia8 := ia7.turns V8 (fun _ _ h => h)
          go_wp2_with fail
          refine (ints_any ia8 o8 (by simp; omega)).mono ?_
          rw [decide_eq_true (by simp : (k : Int) :: O = [(k : Int)] ++ O)]
          rintro e w9 ⟨rfl, t9⟩
          have V9 := V8.trans t9
          have T9 := T8.trans V9
          have v9 := v7.turns V9 (fun _ _ h => h)
          have ib9 := ib.turns V9 (fun _ _ h => h)
          have h9 := h7.turns V9 (fun _ h => h.elim)
          have s9 := T9.size
          have n2 : IntRow w.heap.size (w9.alloc (.cells #[] 3)) (.slice (some ⟨w9.heap.size, 0, none⟩) 0 0) [] := lit_ints w.heap.size w9 [] T9.size (by unfold maxLen; simp)
          go_wp2_with (first | (at_builtin; refine wpList_append_ints _ (by rfl) _ _ rfl w.heap.size w.heap.size _ _ ([] ++ O) [(k : Int)] (by rfl) (by rfl) (o10.turns ((Turns.refl (fun _ => False) _).alloc _) (fun _ _ h => h)) (lit_ints w.heap.size w10 [(k : Int)] s10 (by unfold maxLen; simp)) (by simp; omega) (by simp; omega) ?_; intro v11 w11 o11 g11 l11) | (at_builtin; refine wpList_append_ints _ (by rfl) _ _ rfl w.heap.size w3.heap.size _ _ [] O (by rfl) (by rfl) n2 (v9.turns ((Turns.refl (fun _ => False) _).alloc _) (fun _ _ h => h)) (by simp; omega) (by simp; omega) ?_; intro v10 w10 o10 g10 l10; have s10 : w.heap.size ≤ w10.heap.size := Nat.le_trans s9 (Nat.le_trans (Nat.le_of_lt (by simp)) g10.size)))
          have U10 : Turns (fun j => j = w9.heap.size) w9 w10 := ((Turns.refl _ _).alloc _).trans (Turns.grown g10 (fun j e => by simp [Value.ownBlock] at e; omega))
          have V10 : Turns (fun _ => False) w9 w10 := ⟨U10.os, U10.tape, U10.output, U10.size, fun j hj _ => U10.block j hj (by omega)⟩
          have k10 : ∀ j, v10.ownBlock = some j → w9.heap.size ≤ j := by
            intro j hj
            rw [hj] at l10
            simp [Value.ownBlock] at l10
            omega
          have V11 : Turns (fun _ => False) w9 w11 := (V10.alloc _).next (Turns.grown (S := fun j => v10.ownBlock = some j) g11 (fun j e => e)) (fun j hj e => by have := k10 j e; omega)
          have ib11 := ib9.turns V11 (fun _ _ h => h)
          have h11 := h9.turns V11 (fun _ h => h.elim)
          have T11 := T9.trans V11
          refine (ints_any ib11 o11 (by simp; omega)).mono ?_
          rw [decide_eq_true (by simp : O ++ [(k : Int)] = ([] ++ O) ++ [(k : Int)])]
          rintro e w12 ⟨rfl, t12⟩
          have h12 := h11.turns t12 (fun _ h => h.elim)
          have T12 := T11.trans t12
          go_wp2_with fail
          refine (len_hp h12).mono ?_
          rintro e w13 ⟨rfl, hw⟩
          subst w13
          rw [HL2.out]
          go_wp2_with fail
          go_ret
          exact ⟨by simp, T12.below (fun _ h => h.elim) (Nat.le_refl _)⟩
end Go.Proofs.Ythlnbnklhajilaa
