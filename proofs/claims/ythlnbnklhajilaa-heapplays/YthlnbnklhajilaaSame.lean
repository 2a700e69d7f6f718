/- HeapSame answers true at every row of prios and seqs and every turn. -/
import Derived.Test.YthlnbnklhajilaaDrains
namespace Go.Proofs.Ythlnbnklhajilaa
open Go.RowKit Hp

theorem mod_two (a n : Nat) (h : a < 2 * n) : a % n = if a < n then a else a - n := by
  split
  · exact Nat.mod_eq_of_lt ‹_›
  · rw [Nat.mod_eq_sub_mod (by omega), Nat.mod_eq_of_lt (by omega)]

theorem turn_eq (i t n : Nat) (hi : i < n) : (i + t) % n = if i + t % n < n then i + t % n else i + t % n - n := by
  have ht : t % n < n := Nat.mod_lt _ (by omega)
  have : (i + t) % n = (i + t % n) % n := by rw [Nat.add_mod, Nat.mod_eq_of_lt hi]
  rw [this, mod_two _ n (by omega)]

theorem turn_inj {i j t n : Nat} (hi : i < n) (hj : j < n) (h : (i + t) % n = (j + t) % n) : i = j := by
  have ht : t % n < n := Nat.mod_lt _ (by omega)
  rw [turn_eq i t n hi, turn_eq j t n hj] at h
  split at h <;> split at h <;> omega

theorem turn_sur {j t n : Nat} (hj : j < n) : ∃ i, i < n ∧ (i + t) % n = j := by
  have ht : t % n < n := Nat.mod_lt _ (by omega)
  by_cases h : t % n ≤ j
  · refine ⟨j - t % n, by omega, ?_⟩
    rw [turn_eq _ t n (by omega)]
    split <;> omega
  · refine ⟨j + n - t % n, by omega, ?_⟩
    rw [turn_eq _ t n (by omega)]
    split <;> omega

theorem wrap_small (x : Int) (h0 : 0 ≤ x) (h1 : x ≤ 255) : IntKind.i64.wrap x = x := by rw [IntKind.wrap_i64]; omega

/-- Two heaps that share no block. -/
def Dj (pa : Nat) (va : Value) (qa pb : Nat) (vb : Value) (qb : Nat) : Prop := ∀ k, Foot pa va qa k → ¬ Foot pb vb qb k

theorem Dj.symm {pa : Nat} {va : Value} {qa pb : Nat} {vb : Value} {qb : Nat} (h : Dj pa va qa pb vb qb) : Dj pb vb qb pa va qa := fun k h1 h2 => h k h2 h1

theorem Dj.left {B : Nat} {w : World} {pa : Nat} {va va' : Value} {qa pb : Nat} {vb : Value} {qb cb most : Nat} {row : List Ent} (h : Dj pa va qa pb vb qb) (hb : HP B w pb vb qb cb most row) (hv : va'.ownBlock = va.ownBlock ∨ ∀ k, va'.ownBlock = some k → w.heap.size ≤ k) : Dj pa va' qa pb vb qb := by
  intro k hk hf
  rcases hk with rfl | rfl | hk
  · exact h _ (.inl rfl) hf
  · exact h _ (.inr (.inl rfl)) hf
  · rcases hv with hv | hv
    · exact h k (.inr (.inr (by rw [← hv]; exact hk))) hf
    · have := hv k hk
      have := (hb.foot k hf).2
      omega

/-- Rows of the same entries are drained alike. -/
theorem drain_same {m1 m2 : Nat} {ra rb : List Ent} (ga : Hp.Good m1 ra) (gb : Hp.Good m2 rb) (oa : Ord ra) (ob : Ord rb) (h : ∀ x, x ∈ ra ↔ x ∈ rb) : drn ra.length ra = drn rb.length rb := by
  have hp : ra.Perm rb := (List.perm_ext_iff_of_nodup (good_nodup ga) (good_nodup gb)).2 h
  have pa := drain_perm ra.length ra rfl
  have pb := drain_perm rb.length rb rfl
  exact sorted_eq (uniq_perm (good_uniq gb) pb) (drain_sorted _ ra rfl oa) (drain_sorted _ rb rfl ob) (pa.trans (hp.trans pb.symm))

set_option maxHeartbeats 1000000 in
set_option maxRecDepth 100000 in
theorem same_skip (a0 a1 : Option Addr) (n n1 c0 c1 : Nat) (t : Int) (w : World) (h : 60 < (n : Int) ∨ (n1 : Int) < (n : Int)) :
    Calls Try.prog 7 #[.slice a0 n c0, .slice a1 n1 c1, .int .u8 t] w fun e w' => e = .returned (.bool true) ∧ Below w.heap.size w w' := by
  by_cases h1 : 60 < (n : Int)
  · go_enter Try.func7, Try.ntmps7
    go_wp2_with fail
    refine (known_true w).mono ?_
    rintro e w1 ⟨rfl, T1⟩
    go_wp2_with fail
    go_ret
    exact ⟨rfl, T1.below (fun _ h => h.elim) (Nat.le_refl _)⟩
  · have h2 : (n1 : Int) < (n : Int) := by omega
    have h3 : decide (60 < (n : Int)) = false := decide_eq_false h1
    clear h h1
    go_enter Try.func7, Try.ntmps7
    go_wp2_with fail
    refine (known_true w).mono ?_
    rintro e w1 ⟨rfl, T1⟩
    go_wp2_with fail
    go_ret
    exact ⟨rfl, T1.below (fun _ h => h.elim) (Nat.le_refl _)⟩

set_option maxHeartbeats 4000000 in
set_option maxRecDepth 100000 in
theorem same_some (a0 a1 : Option Addr) (n n1 c0 c1 : Nat) (t : Nat) (P S : List Int) (w : World) (hn : n ≤ 60) (hn1 : n ≤ n1) (ht : t ≤ 255)
    (hA : n = 0 ∨ ∃ b0 f0 b1 f1, a0 = some ⟨b0, f0, none⟩ ∧ a1 = some ⟨b1, f1, none⟩ ∧ (∀ j, j < n → w.cell? ⟨b0, f0 + j, none⟩ = some (.int .u8 (P.getD j 0))) ∧ (∀ j, j < n → w.cell? ⟨b1, f1 + j, none⟩ = some (.int .u8 (S.getD j 0))))
    (bP : ∀ j, 0 ≤ P.getD j 0 ∧ P.getD j 0 ≤ 255) (bS : ∀ j, 0 ≤ S.getD j 0 ∧ S.getD j 0 ≤ 255) :
    Calls Try.prog 7 #[.slice a0 n c0, .slice a1 n1 c1, .int .u8 t] w fun e w' => e = .returned (.bool true) ∧ Below w.heap.size w w' := by
  have HA : Hid (n = 0 ∨ ∃ b0 f0 b1 f1, a0 = some ⟨b0, f0, none⟩ ∧ a1 = some ⟨b1, f1, none⟩ ∧ (∀ j, j < n → w.cell? ⟨b0, f0 + j, none⟩ = some (.int .u8 (P.getD j 0))) ∧ (∀ j, j < n → w.cell? ⟨b1, f1 + j, none⟩ = some (.int .u8 (S.getD j 0)))) := hA
  have BP : Hid (∀ j, 0 ≤ P.getD j 0 ∧ P.getD j 0 ≤ 255) := bP
  have BS : Hid (∀ j, 0 ≤ S.getD j 0 ∧ S.getD j 0 ≤ 255) := bS
  clear hA bP bS
  have g1 : decide (60 < (n : Int)) = false := decide_eq_false (by omega)
  have g2 : decide ((n1 : Int) < (n : Int)) = false := decide_eq_false (by omega)
  go_enter Try.func7, Try.ntmps7
  go_wp2_with fail
  refine (known_true w).mono ?_
  rintro e w1 ⟨rfl, T1⟩
  go_wp2_with fail
  refine (new_good w.heap.size 60 w1 (by omega) (by omega) T1.size).mono ?_
  rintro e w2 ⟨pa, rfl, qa, h2, t2, k1, k2⟩
  have T2 := T1.trans t2
  go_wp2_with fail
  refine (new_good w.heap.size 60 w2 (by omega) (by omega) T2.size).mono ?_
  rintro e w3 ⟨pb, rfl, qb, h3, t3, k3, k4⟩
  have T3 := T2.trans t3
  have h2' := h2.turns t3 (fun _ h => h.elim)
  have F2 := h2.foot
  have D0 : Dj pa (.slice none 0 0) qa pb (.slice none 0 0) qb := by
    intro k hk hf
    have := (F2 k hk).2
    rcases hf with rfl | rfl | hf
    · omega
    · omega
    · simp [Value.ownBlock] at hf
  clear F2 k1 k2 k3 k4
  go_wp2_with fail
  go_loopw [12] (fun i wr => ∃ (c : Nat) (ra rb : List Ent) (va vb : Value), i = .int .i64 c ∧ c ≤ n ∧ HP w.heap.size wr pa va qa 60 60 ra ∧ Ord ra ∧ HP w.heap.size wr pb vb qb 60 60 rb ∧ Ord rb ∧
      Hid (ra.length = c) ∧ Hid (rb.length = c) ∧ Hid (∀ x, x ∈ ra ↔ ∃ j, j < c ∧ x = entAt P S j) ∧ Hid (∀ x, x ∈ rb ↔ ∃ j, j < c ∧ x = entAt P S ((j + t) % n)) ∧ Dj pa va qa pb vb qb ∧ Turns (fun _ => False) w wr)
    (fun i _ => n - (intOf i).toNat)
  case atStart => exact ⟨0, [], [], _, _, rfl, by omega, h2', (fun i _ h => by cases h), h3, (fun i _ h => by cases h), rfl, rfl, (fun x => by simp), (fun x => by simp), D0, T3⟩
  case round =>
    obtain ⟨c, ra, rb, va, vb, rfl, hc, ha, oa, hb, ob, LA, LB, MA, MB, D, T⟩ := hrel
    clear h2 h2' h3 t2 t3 T1 T2 T3 D0
    by_cases hcn : c < n
    · rcases HA.out with h | ⟨b0, f0, b1, f1, rfl, rfl, hP, hS⟩
      · omega
      have CP : Hid (∀ j, j < n → w.cell? ⟨b0, f0 + j, none⟩ = some (.int .u8 (P.getD j 0))) := hP
      have CS : Hid (∀ j, j < n → w.cell? ⟨b1, f1 + j, none⟩ = some (.int .u8 (S.getD j 0))) := hS
      have L0 : Hid (b0 < w.heap.size) := cell_lt (hP c hcn)
      have L1 : Hid (b1 < w.heap.size) := cell_lt (hS c hcn)
      clear hP hS HA
      obtain ⟨k, hk⟩ : ∃ k, (c + t) % n = k := ⟨_, rfl⟩
      have hkn : k < n := by rw [← hk]; exact Nat.mod_lt _ (by omega)
      have hki : ((c : Int) + (t : Int)) % (n : Int) = (k : Int) := by rw [← hk]; simp
      have HK : Hid ((c + t) % n = k) := hk
      clear hk
      obtain ⟨x, hx⟩ : ∃ x, P.getD c 0 = x := ⟨_, rfl⟩
      obtain ⟨y, hy⟩ : ∃ y, S.getD c 0 = y := ⟨_, rfl⟩
      obtain ⟨x', hx'⟩ : ∃ x, P.getD k 0 = x := ⟨_, rfl⟩
      obtain ⟨y', hy'⟩ : ∃ y, S.getD k 0 = y := ⟨_, rfl⟩
      have gx := T.cell (CP.out c hcn) L0.out (fun h => h)
      have gy := T.cell (CS.out c hcn) L1.out (fun h => h)
      have gx' := T.cell (CP.out k hkn) L0.out (fun h => h)
      have gy' := T.cell (CS.out k hkn) L1.out (fun h => h)
      have r1 := BP.out c
      have r2 := BS.out c
      have r3 := BP.out k
      have r4 := BS.out k
      rw [hx] at gx r1
      rw [hy] at gy r2
      rw [hx'] at gx' r3
      rw [hy'] at gy' r4
      obtain ⟨r1a, r1b⟩ := r1
      obtain ⟨r2a, r2b⟩ := r2
      obtain ⟨r3a, r3b⟩ := r3
      obtain ⟨r4a, r4b⟩ := r4
      have HX : Hid (P.getD c 0 = x) := hx
      have HY : Hid (S.getD c 0 = y) := hy
      have HX' : Hid (P.getD k 0 = x') := hx'
      have HY' : Hid (S.getD k 0 = y') := hy'
      have E1 : Hid (entAt P S c = ⟨(c : Int), x, y⟩) := by show _ = _; unfold entAt; rw [hx, hy]
      have E2 : Hid (entAt P S k = ⟨(k : Int), x', y'⟩) := by show _ = _; unfold entAt; rw [hx', hy']
      clear hx hy hx' hy'
      have P01 : Hid (place ra (c : Int).toNat = 0) := by
        show _ = _
        rw [Int.toNat_natCast]
        apply place_zero
        intro z hz e
        obtain ⟨j, hj, rfl⟩ := (MA.out z).1 hz
        simp only [entAt] at e
        omega
      have P02 : Hid (place rb (k : Int).toNat = 0) := by
        show _ = _
        rw [Int.toNat_natCast]
        apply place_zero
        intro z hz e
        obtain ⟨j, hj, rfl⟩ := (MB.out z).1 hz
        simp only [entAt] at e
        have := turn_inj (i := j) (j := c) (t := t) (n := n) (by omega) hcn (by rw [HK.out]; omega)
        omega
      have KN1 : Hid (knB 60 (c : Int) = true) := by show _ = _; simp [knB]; omega
      have KN2 : Hid (knB 60 (k : Int) = true) := by show _ = _; simp [knB]; omega
      have b1' : (c : Int) < (n : Int) := by omega
      have b2' : (c : Int) < (n1 : Int) := by omega
      have b3' : (0 : Int) ≤ (c : Int) := by omega
      have b4' : (k : Int) < (n : Int) := by omega
      have b5' : (k : Int) < (n1 : Int) := by omega
      have b6' : (0 : Int) ≤ (k : Int) := by omega
      have wx : IntKind.i64.wrap x = x := wrap_small x (by omega) (by omega)
      have wy : IntKind.i64.wrap y = y := wrap_small y (by omega) (by omega)
      have wx' : IntKind.i64.wrap x' = x' := wrap_small x' (by omega) (by omega)
      have wy' : IntKind.i64.wrap y' = y' := wrap_small y' (by omega) (by omega)
      go_wp2_with fail
      go_region_held3 (fun w' => w'.cell? ⟨b0, f0 + c, none⟩ = some (.int .u8 x) ∧ w'.cell? ⟨b1, f1 + c, none⟩ = some (.int .u8 y) ∧ w'.cell? ⟨b0, f0 + k, none⟩ = some (.int .u8 x') ∧ w'.cell? ⟨b1, f1 + k, none⟩ = some (.int .u8 y')) (go_keep)
        (first | (go_at_call_of 11 (Value.pointer (some (⟨pa, 0, none⟩ : Addr))); refine (put_ok (c : Int) x y ha.drew KN1.out P01.out T.size).mono ?_; rintro e w4 ⟨rfl, va4, ha4, t4, v4⟩; have T4 := ha.drew.frame (Nat.le_refl _) T.drew t4; have hb4 := hb.drew.turns t4 D; have z1 := T4.cell (CP.out c hcn) L0.out (fun h => h); rw [HX.out] at z1; have z2 := T4.cell (CS.out c hcn) L1.out (fun h => h); rw [HY.out] at z2; have z3 := T4.cell (CP.out k hkn) L0.out (fun h => h); rw [HX'.out] at z3; have z4 := T4.cell (CS.out k hkn) L1.out (fun h => h); rw [HY'.out] at z4) | (go_at_call_of 11 (Value.pointer (some (⟨pb, 0, none⟩ : Addr))); refine (put_ok (k : Int) x' y' hb4 KN2.out P02.out T4.size).mono ?_; rintro e w5 ⟨rfl, vb5, hb5, t5, v5⟩; have T5 := hb4.frame (Nat.le_refl _) T4 t5; have D4 := D.left hb.drew v4; have ha5 := ha4.turns t5 D4.symm; have y1 := T5.cell (CP.out c hcn) L0.out (fun h => h); rw [HX.out] at y1; have y2 := T5.cell (CS.out c hcn) L1.out (fun h => h); rw [HY.out] at y2; have y3 := T5.cell (CP.out k hkn) L0.out (fun h => h); rw [HX'.out] at y3; have y4 := T5.cell (CS.out k hkn) L1.out (fun h => h); rw [HY'.out] at y4))
      go_wp2_with fail
      go_roundw
      case rel =>
        refine ⟨c + 1, putR ra ⟨(c : Int), x, y⟩, putR rb ⟨(k : Int), x', y'⟩, va4, vb5, by go_num, by omega, ha5, putR_ord oa _, hb5, putR_ord ob _, ?_, ?_, ?_, ?_, (D4.symm.left ha4 v5).symm, T5⟩
        · show _ = _
          rw [putR_len, LA.out]
        · show _ = _
          rw [putR_len, LB.out]
        · intro z
          rw [putR_mem, MA.out z, ← E1.out]
          constructor
          · rintro (⟨j, hj, rfl⟩ | rfl)
            · exact ⟨j, by omega, rfl⟩
            · exact ⟨c, by omega, rfl⟩
          · rintro ⟨j, hj, rfl⟩
            by_cases hjc : j = c
            · right; rw [hjc]
            · left; exact ⟨j, by omega, rfl⟩
        · intro z
          rw [putR_mem, MB.out z, ← E2.out, ← HK.out]
          constructor
          · rintro (⟨j, hj, rfl⟩ | rfl)
            · exact ⟨j, by omega, rfl⟩
            · exact ⟨c, by omega, rfl⟩
          · rintro ⟨j, hj, rfl⟩
            by_cases hjc : j = c
            · right; rw [hjc]
            · left; exact ⟨j, by omega, rfl⟩
      case measure => simp [intOf]; omega
    · have hcc : c = n := by omega
      subst hcc
      clear hcn
      have hsame : drn ra.length ra = drn rb.length rb := by
        apply drain_same ha.good hb.good oa ob
        intro x
        rw [MA.out x, MB.out x]
        constructor
        · rintro ⟨j, hj, rfl⟩
          obtain ⟨i, hi, he⟩ := turn_sur (t := t) hj
          exact ⟨i, hi, by rw [he]⟩
        · rintro ⟨j, hj, rfl⟩
          exact ⟨(j + t) % c, Nat.mod_lt _ (by omega), rfl⟩
      have HSAME : Hid (drn ra.length ra = drn rb.length rb) := hsame
      clear hsame
      go_wp2_with fail
      refine (order_ints ha T.size).mono ?_
      rintro e w4 ⟨o1, rfl, i4, l4, t4⟩
      have T4 := T.trans t4
      have hb4 := hb.turns t4 (fun _ h => h.elim)
      have ha4 := ha.turns t4 (fun _ h => h.elim)
      go_wp2_with fail
      refine (order_ints hb4 T4.size).mono ?_
      rintro e w5 ⟨o2, rfl, i5, l5, t5⟩
      have T5 := T4.trans t5
      have hb5 := hb4.turns t5 (fun _ h => h.elim)
      have ha5 := ha4.turns t5 (fun _ h => h.elim)
      have j5 := i4.turns t5 (fun _ _ h => h)
      have hlen := ha.len
      go_wp2_with fail
      refine (ints_any j5 i5 (by rw [List.length_map, drain_len]; omega)).mono ?_
      rw [HSAME.out, decide_eq_true (rfl : (drn rb.length rb).map (·.id) = (drn rb.length rb).map (·.id))]
      rintro e w6 ⟨rfl, t6⟩
      have T6 := T5.trans t6
      have hb6 := hb5.turns t6 (fun _ h => h.elim)
      have ha6 := ha5.turns t6 (fun _ h => h.elim)
      go_wp2_with fail
      refine (len_hp ha6).mono ?_
      rintro e w7 ⟨rfl, hw⟩
      subst w7
      rw [LA.out]
      go_wp2_with fail
      refine (len_hp hb6).mono ?_
      rintro e w7 ⟨rfl, hw⟩
      subst w7
      rw [LB.out]
      go_wp2_with fail
      go_ret
      exact ⟨by simp, T6.below (fun _ h => h.elim) (Nat.le_refl _)⟩
end Go.Proofs.Ythlnbnklhajilaa
