/- The reference's Ceils and Sections. The reference's Sections. What is taken: its programs, its budgets, its locks; sections without the lock: plain mathematics. -/
import Derived.Test.YtlkbphogpbcjfaaGreatDoorQRl
import Derived.Test.YtlkbphogpbcjfaaGreatDoorQCe
import Derived.Test.YtlkbphogpbcjfaaGreatDoorRPr
namespace Go.Proofs.YtlkbphogpbcjfaaGreatDoor
open Go.RowKit Go.Sort

/-- The ceilings by the first j tasks; of task j its first k locks besides. -/
def ceilI (ts : List TaskD) (L j : Nat) (m : List Int) : List Int := (List.range L).map (fun q : Nat => if m.contains (q : Int) = true then max (ceilV (prE ts) (hasK ts q) j) (prE ts j) else ceilV (prE ts) (hasK ts q) j)
theorem ceilI_len (ts : List TaskD) (L j : Nat) (m : List Int) : (ceilI ts L j m).length = L := by simp [ceilI]
theorem ceilI_zero (ts : List TaskD) (L : Nat) : ceilI ts L 0 [] = List.replicate L 0 := by
  apply List.ext_getElem
  · simp [ceilI]
  · intro i h1 h2
    simp [ceilI, ceilV]
theorem ceilI_end (ts : List TaskD) (L : Nat) : ceilI ts L ts.length [] = ceilD ts L := by
  unfold ceilI ceilD
  exact List.map_congr_left (fun i _ => by rw [if_neg (by simp)])
theorem ceilI_next {ts : List TaskD} {L j : Nat} {t : TaskD} (h : ts[j]? = some t) : ceilI ts L j (locksD t.prog) = ceilI ts L (j + 1) [] := by
  unfold ceilI
  refine List.map_congr_left (fun (i : Nat) _ => ?_)
  have hh : hasK ts i j = (locksD t.prog).contains (i : Int) := by unfold hasK; rw [h]
  rw [if_neg (c := ([] : List Int).contains (i : Int) = true) (by simp), ceilV, hh]
theorem ceilI_get {ts : List TaskD} {L j q : Nat} {m : List Int} (h : q < L) (hm : (q : Int) ∉ m) : (ceilI ts L j m)[q]? = some (ceilV (prE ts) (hasK ts q) j) := by
  simp only [ceilI, List.getElem?_map, List.getElem?_range h, Option.map_some]
  rw [if_neg (by simpa using hm)]
theorem ceilI_set {ts : List TaskD} {L j q : Nat} {m : List Int} : (ceilI ts L j m).set q (max (ceilV (prE ts) (hasK ts q) j) (prE ts j)) = ceilI ts L j (m ++ [(q : Int)]) := by
  apply List.ext_getElem
  · simp [ceilI]
  · intro i h1 h2
    rw [List.getElem_set]
    simp only [ceilI, List.getElem_map, List.getElem_range]
    by_cases e : q = i
    · subst e
      rw [if_pos rfl, if_pos (by simp)]
    · rw [if_neg e]
      have hq : (m ++ [(q : Int)]).contains (i : Int) = m.contains (i : Int) := by
        rw [Bool.eq_iff_iff]
        simp only [List.contains_iff_mem, List.mem_append, List.mem_singleton]
        constructor
        · rintro (h | h)
          · exact h
          · omega
        · exact fun h => .inl h
      rw [hq]
theorem ceilI_same {ts : List TaskD} {L j q : Nat} {m : List Int} (hq : q < L) (hm : (q : Int) ∉ m) (hle : prE ts j ≤ ceilV (prE ts) (hasK ts q) j) : ceilI ts L j m = ceilI ts L j (m ++ [(q : Int)]) := by
  rw [← ceilI_set (q := q)]
  apply List.ext_getElem?
  intro i
  rw [List.getElem?_set]
  by_cases e : q = i
  · subst e
    rw [if_pos rfl, if_pos (by rw [ceilI_len]; exact hq), ceilI_get hq hm]
    congr 1
    omega
  · rw [if_neg e]

set_option maxHeartbeats 8000000 in
set_option maxRecDepth 10000 in
theorem rceils_any (L : Nat) (ca ta : Option Addr) (nc cc tc : Nat) (ts : List TaskD) (w : World) (hA : AtT w ta ts) (hn : ts.length ≤ 1000) (hL : L ≤ 1000) (hpl : ∀ t ∈ ts, t.prog.length ≤ 100000) (hlk : ∀ t ∈ ts, ∀ x ∈ locksD t.prog, 0 ≤ x ∧ x < (L : Int)) :
    Calls Tryz.prog 40 #[.agg #[.int .i64 L, .slice ca nc cc, .slice ta ts.length tc]] w fun e w' => ∃ g, e = .returned (.slice (some ⟨g, 0, none⟩) L L) ∧ AtI w' (some ⟨g, 0, none⟩) (ceilD ts L) ∧ Kept w w' := by
  have HA : Hid (AtT w ta ts) := hA
  have HPL : Hid (∀ t ∈ ts, t.prog.length ≤ 100000) := hpl
  have HLK : Hid (∀ t ∈ ts, ∀ x ∈ locksD t.prog, 0 ≤ x ∧ x < (L : Int)) := hlk
  obtain ⟨i3, hi3, hi30, hi31, hi38⟩ := info3
  have K0 : Kept w (w.alloc (.cells #[.int .i64 L, .slice ca nc cc, .slice ta ts.length tc] 25)) := (Kept.refl w).alloc _
  have HB : Hid (Box w.heap.size (w.alloc (.cells #[.int .i64 L, .slice ca nc cc, .slice ta ts.length tc] 25)) 25 w.heap.size [.int .i64 L, .slice ca nc cc, .slice ta ts.length tc]) := box_new w.heap.size w 25 [.int .i64 L, .slice ca nc cc, .slice ta ts.length tc] (Nat.le_refl _) (by simp)
  have s0 : (w.alloc (.cells #[.int .i64 L, .slice ca nc cc, .slice ta ts.length tc] 25)).cell? ⟨w.heap.size, 0, none⟩ = some (.int .i64 L) := HB.out.cell 0 (by simp)
  have s1 : (w.alloc (.cells #[.int .i64 L, .slice ca nc cc, .slice ta ts.length tc] 25)).cell? ⟨w.heap.size, 1, none⟩ = some (.slice ca nc cc) := HB.out.cell 1 (by simp)
  have s2 : (w.alloc (.cells #[.int .i64 L, .slice ca nc cc, .slice ta ts.length tc] 25)).cell? ⟨w.heap.size, 2, none⟩ = some (.slice ta ts.length tc) := HB.out.cell 2 (by simp)
  have hpr := rprios_any (L : Int) ca nc cc ta ts.length tc (dlT ts) (w.alloc (.cells #[.int .i64 L, .slice ca nc cc, .slice ta ts.length tc] 25)) ((att_d hA).kept K0) hn
  clear hA hpl hlk s0 s1 s2
  go_enter Tryz.func40, Tryz.ntmps40
  go_wp2_with fail
  generalize (w.alloc (.cells #[.int .i64 L, .slice ca nc cc, .slice ta ts.length tc] 25)) = wA at *
  refine hpr.mono ?_
  rintro e w1 ⟨va, vc, rfl, A1, K1⟩
  have HP : Hid (AtI w1 va (prD ts.length (dlT ts))) := A1
  have K01 := K0.trans K1
  have HB1 : Hid (Box w.heap.size w1 25 w.heap.size [.int .i64 L, .slice ca nc cc, .slice ta ts.length tc]) := HB.out.kept K1
  have s0 : w1.cell? ⟨w.heap.size, 0, none⟩ = some (.int .i64 L) := HB1.out.cell 0 (by simp)
  have hbs : w.heap.size ≤ w1.heap.size := K01.size
  have hlt1 := HB1.out.lt.2
  clear hpr A1 HB K0 K1
  go_wp2_with (refine wpList_make_full _ rfl _ _ 66 rfl w.heap.size 3 i3 _ 1 Tryz.underlying66 hi3 hi30 hi31 _ _ _ _ L rfl rfl rfl rfl (by rw [hi38]; omega) (by unfold maxLen; omega) hbs ?_; intro w2 ow2 gr2)
  obtain ⟨gb, hgb⟩ : ∃ x, w1.heap.size = x := ⟨_, rfl⟩
  rw [hgb] at ow2 ⊢
  have HI0 : Hid (IRow 3 w.heap.size w2 (.slice (some ⟨gb, 0, none⟩) L L) (ceilI ts L 0 [])) := by show IRow _ _ _ _ _; rw [ceilI_zero]; exact irow_made ow2
  have KA : Kept w1 w2 := (Turns.grown (S := fun _ => False) gr2 (fun k e => by cases e)).kept (Kept.refl _) (fun i hi => hi.elim)
  have HB2 : Hid (Box w.heap.size w2 25 w.heap.size [.int .i64 L, .slice ca nc cc, .slice ta ts.length tc]) := HB1.out.kept KA
  have HP2 : Hid (AtI w2 va (prD ts.length (dlT ts))) := HP.out.kept KA
  have HNE : Hid (∀ (b f : Nat), va = some ⟨b, f, none⟩ → ∀ (j : Nat) (x : Int), (prD ts.length (dlT ts))[j]? = some x → b ≠ gb ∧ b < w2.heap.size) := by
    intro b f e j x hj
    obtain ⟨b', f', e', hc⟩ := HP.out j x hj
    rw [e] at e'
    cases e'
    have := cell_lt hc
    have := KA.size
    simp only at *
    omega
  have HG : Hid (w.heap.size ≠ gb ∧ w.heap.size ≤ gb) := by show _ ∧ _; omega
  have K2 := K01.trans KA
  clear ow2 gr2 HB1 HP KA s0 hbs hlt1 hgb K01
  go_wp2_with fail
  go_loopg [5] ts.length (fun gk i wr => ∃ (j : Nat) (W : World), W = wr ∧ i = .int .i64 j ∧ j + gk = ts.length ∧ Hid (IRow 3 w.heap.size W (.slice (some ⟨gb, 0, none⟩) L L) (ceilI ts L j [])) ∧ Hid (Turns (fun q => q = gb) w2 W) ∧ Kept w W)
  case atStart => exact ⟨0, _, rfl, rfl, by omega, HI0, Turns.refl _ _, K2⟩
  case round =>
    obtain ⟨j, W, hW, rfl, hj, HI, HT, K⟩ := hrel
    subst hW
    have u2 : W.cell? ⟨w.heap.size, 2, none⟩ = some (.slice ta ts.length tc) := (HB2.out.turns HT.out (by have := HG.out; omega)).cell 2 (by simp)
    by_cases hjn : j < ts.length
    · have b1 : (j : Int) < (ts.length : Int) := by omega
      have b2 : (0 : Int) ≤ (j : Int) := by omega
      obtain ⟨b, f, nm, pd, dl, bu, pr, pa, pc, rfl, hpj, g0, g1, g2, g3, g4, hpc, hat, _, _⟩ := (HA.out.kept K).get j hjn
      have hlp : pr.length ≤ 100000 := HPL.out _ (List.mem_of_getElem? hpj)
      have HLX : Hid (∀ x ∈ locksD pr, 0 ≤ x ∧ x < (L : Int)) := HLK.out _ (List.mem_of_getElem? hpj)
      have HNX : Hid (ceilI ts L j (locksD pr) = ceilI ts L (j + 1) []) := ceilI_next hpj
      have hlo := rlocks_any pa pc pr W hat hlp
      have hll : (locksD pr).length ≤ 100000 := by unfold locksD; exact Nat.le_trans (compact_len _) (by rw [List.length_mergeSort]; exact Nat.le_trans (lockNs_len pr) hlp)
      obtain ⟨l, hl⟩ : ∃ z, locksD pr = z := ⟨_, rfl⟩
      have HSO : Hid (l.Pairwise (· < ·)) := hl ▸ locksD_strict pr
      rw [hl] at hlo HLX HNX hll
      obtain ⟨gm, rfl⟩ : ∃ g, gk = g + 1 := ⟨gk - 1, by omega⟩
      clear hpj hat hl hlp
      go_wp2_with fail
      refine hlo.mono ?_
      rintro e w3 ⟨v3, rfl, R3, K3⟩
      have hform := irow_form R3
      obtain ⟨la, lc, hv3, HAL⟩ : ∃ la lc, v3 = .slice la l.length lc ∧ Hid (AtI w3 la l) := by
        rcases hform with ⟨h1, h2⟩ | ⟨g, c', h1, _⟩
        · subst h2
          exact ⟨none, 0, h1, fun j x hj => by simp at hj⟩
        · refine ⟨_, c', h1, fun j x hj => ⟨g, 0, rfl, ?_⟩⟩
          rw [Nat.zero_add]
          rw [h1] at R3
          exact R3.cell j x hj
      subst hv3
      have HLB : Hid (∀ b' f', la = some ⟨b', f', none⟩ → b' ≠ gb) := by
        rintro b' f' rfl
        have h1 := (World.ownsRow.lt R3 b' rfl).1
        have h2 := (World.ownsRow.lt HI.out gb rfl).2
        omega
      have HI3 : Hid (IRow 3 w.heap.size w3 (.slice (some ⟨gb, 0, none⟩) L L) (ceilI ts L j (l.take 0))) := HI.out.kept K3
      have HT3 : Hid (Turns (fun q => q = gb) w2 w3) := HT.out.next K3.turns (fun _ _ h => h.elim)
      have K03 := K.trans K3
      clear hlo hform R3 u2
      go_wp2_with fail
      go_loopg [7] l.length (fun gk i wr => ∃ (k : Nat) (W2 : World), W2 = wr ∧ i = .int .i64 k ∧ k + gk = l.length ∧ Hid (IRow 3 w.heap.size W2 (.slice (some ⟨gb, 0, none⟩) L L) (ceilI ts L j (l.take k))) ∧ Hid (Turns (fun q => q = gb) w3 W2) ∧ Kept w W2)
      case atStart => exact ⟨0, _, rfl, rfl, by omega, HI3, Turns.refl _ _, K03⟩
      case round =>
        obtain ⟨k, W2, hW, rfl, hk, HI4, HT4, K4⟩ := hrel
        subst hW
        by_cases hkl : k < l.length
        · have b3 : (k : Int) < (l.length : Int) := by omega
          have b4 : (0 : Int) ≤ (k : Int) := by omega
          obtain ⟨x, hx⟩ : ∃ x, l[k]? = some x := ⟨_, List.getElem?_eq_getElem hkl⟩
          obtain ⟨hx0, hxL⟩ := HLX.out x (List.mem_of_getElem? hx)
          obtain ⟨q, rfl⟩ : ∃ q : Nat, x = (q : Int) := ⟨x.toNat, by omega⟩
          have hqL : q < L := by omega
          have hnm : (q : Int) ∉ l.take k := by
            intro hm
            obtain ⟨i, hi, e⟩ := List.getElem_of_mem hm
            rw [List.length_take] at hi
            rw [List.getElem_take] at e
            obtain ⟨hk2, e2⟩ := List.getElem?_eq_some_iff.1 hx
            have := (List.pairwise_iff_getElem.1 HSO.out) i k (by omega) hk2 (by omega)
            omega
          have HTK : Hid (l.take (k + 1) = l.take k ++ [(q : Int)]) := by show _ = _; rw [List.take_add_one, hx]; rfl
          obtain ⟨lb, lf, rfl, cl⟩ := HAL.out k (q : Int) hx
          have hlb := HLB.out lb lf rfl
          have c1 : W2.cell? ⟨lb, lf + k, none⟩ = some (.int .i64 (q : Int)) := HT4.out.cell cl (cell_lt cl) (by simp only; exact hlb)
          have hpx : (prD ts.length (dlT ts))[j]? = some (prE ts j) := by simp [prD, prE, hjn]
          obtain ⟨pb, pf, rfl, cp⟩ := HP2.out j (prE ts j) hpx
          obtain ⟨hpb, hpl⟩ := HNE.out pb pf rfl j _ hpx
          have c2 : W2.cell? ⟨pb, pf + j, none⟩ = some (.int .i64 (prE ts j)) := HT4.out.cell (HT3.out.cell cp hpl (by simp only; exact hpb)) (by have := HT3.out.size; simp only; omega) (by simp only; exact hpb)
          have c3 := irow_cell HI4.out (ceilI_len ts L j _) q _ (ceilI_get hqL hnm)
          have f3 := irow_frozen HI4.out (ceilI_len ts L j (l.take k)) q
          have b5 : (q : Int) < (L : Int) := by omega
          have HSE : Hid ((ceilI ts L j (l.take k)).set q (max (ceilV (prE ts) (hasK ts q) j) (prE ts j)) = ceilI ts L j (l.take (k + 1))) := by show _ = _; rw [HTK.out]; exact ceilI_set
          have HSA : Hid (prE ts j ≤ ceilV (prE ts) (hasK ts q) j → ceilI ts L j (l.take k) = ceilI ts L j (l.take (k + 1))) := fun h => by rw [HTK.out]; exact ceilI_same hqL hnm h
          obtain ⟨p, hp⟩ : ∃ z, prE ts j = z := ⟨_, rfl⟩
          obtain ⟨cv, hcv⟩ : ∃ z, ceilV (prE ts) (hasK ts q) j = z := ⟨_, rfl⟩
          rw [hp] at c2 HSE HSA
          rw [hcv] at c3 HSE HSA
          obtain ⟨gi, rfl⟩ : ∃ g, gk = g + 1 := ⟨gk - 1, by omega⟩
          have hlb2 : gb ≠ lb := fun e => hlb e.symm
          have hpb2 : gb ≠ pb := fun e => hpb e.symm
          clear hx hnm cl cp hpx hp hcv hxL hx0 hpl
          by_cases hgt : p > cv
          · have HS2 : Hid ((ceilI ts L j (l.take k)).set q p = ceilI ts L j (l.take (k + 1))) := by have h := HSE.out; rw [show max cv p = p by omega] at h; exact h
            clear HSE HSA
            go_wp2_with fail
            go_big_region
            all_goals go_wp2_with fail
            go_region_held3 (fun w' => w'.cell? ⟨lb, lf + k, none⟩ = some (.int .i64 (q : Int)) ∧ w'.cell? ⟨pb, pf + j, none⟩ = some (.int .i64 p)) (go_keep) (fail)
            all_goals go_wp2_with fail
            go_roundg gi
            case rel =>
              have t := turn_set W2 gb q (.int .i64 p)
              have h5 := irow_set HI4.out (ceilI_len ts L j _) q p
              rw [HS2.out] at h5
              exact ⟨k + 1, _, rfl, by go_num, by omega, h5.kept (((Kept.refl _).drew).drew), ((HT4.out.trans t).drew).drew, ((t.kept K4 (fun i hi => by have := HG.out; omega)).drew).drew⟩
            case measure => omega
          · have hle : p ≤ cv := by omega
            have HI5 : Hid (IRow 3 w.heap.size W2 (.slice (some ⟨gb, 0, none⟩) L L) (ceilI ts L j (l.take (k + 1)))) := by have h := HI4.out; rw [HSA.out hle] at h; exact h
            clear HSE HSA hle
            go_wp2_with fail
            go_big_region
            all_goals go_wp2_with fail
            go_roundg gi
            case rel => exact ⟨k + 1, _, rfl, by go_num, by omega, HI5.out.kept ((Kept.refl W2).drew), HT4.out.drew, K4.drew⟩
            case measure => omega
        · have b3 : ¬ (k : Int) < (l.length : Int) := by omega
          have HI5 : Hid (IRow 3 w.heap.size W2 (.slice (some ⟨gb, 0, none⟩) L L) (ceilI ts L (j + 1) [])) := by
            have h := HI4.out
            rw [List.take_of_length_le (by omega), HNX.out] at h
            exact h
          go_wp2_with fail
          go_roundg gm
          case rel => exact ⟨j + 1, _, rfl, by go_num, by omega, HI5, HT3.out.trans HT4.out, K4⟩
          case measure => omega
    · have b1 : ¬ (j : Int) < (ts.length : Int) := by omega
      have HF : Hid (AtI W (some ⟨gb, 0, none⟩) (ceilD ts L)) := by
        have h5 := irow_at HI.out (ceilI_len ts L j [])
        rw [show j = ts.length by omega, ceilI_end] at h5
        exact h5
      go_wp2_with fail
      go_ret
      exact ⟨gb, rfl, HF.out, K⟩
end Go.Proofs.YtlkbphogpbcjfaaGreatDoor
namespace Go.Proofs.YtlkbphogpbcjfaaGreatDoor
open Go.RowKit Go.Sort

theorem secD_take {lock : Int} {F : Nat → List OpD} {ts : List TaskD} {j : Nat} (h : j < ts.length) : (secD lock F ts).take (j + 1) = (secD lock F ts).take j ++ [secV lock F ts j] := by
  rw [List.take_add_one]
  simp [secD, h]
theorem irow_view {e : TypeId} {B : Nat} {w : World} {v : Value} {l : List Int} (h : IRow e B w v l) : ∃ a c, v = .slice a l.length c ∧ AtI w a l := by
  rcases h.2 with ⟨h1, h2⟩ | ⟨g, cap, cur, h1, _⟩
  · refine ⟨none, 0, by rw [h1, h2], ?_⟩
    rw [List.eq_nil_of_length_eq_zero h2]
    intro j x hj
    simp at hj
  · subst h1
    exact ⟨_, cap, rfl, irow_at2 h rfl⟩
set_option maxHeartbeats 4000000 in
theorem rsections_none (L lock : Int) (ca ta : Option Addr) (nc cc n tc : Nat) (w : World) (h : lock < 0 ∨ L ≤ lock) :
    Calls Tryz.prog 41 #[.agg #[.int .i64 L, .slice ca nc cc, .slice ta n tc], .int .i64 lock] w fun e w' => e = .returned (.slice none 0 0) ∧ Kept w w' := by
  have K1 : Kept w (w.alloc (.cells #[.int .i64 L, .slice ca nc cc, .slice ta n tc] 25)) := (Kept.refl w).alloc _
  by_cases h0 : lock < 0
  · clear h
    go_enter Tryz.func41, Tryz.ntmps41
    go_wp2_with fail
    go_ret
    exact ⟨rfl, K1⟩
  · have h2 : lock ≥ L := by omega
    clear h
    go_enter Tryz.func41, Tryz.ntmps41
    go_wp2_with fail
    go_ret
    exact ⟨rfl, K1⟩
set_option maxHeartbeats 8000000 in
set_option maxRecDepth 10000 in
theorem rsections_any (L lock : Int) (ca ta : Option Addr) (nc cc tc : Nat) (ts : List TaskD) (F : Nat → List OpD) (w : World) (hA : AtT w ta ts) (hn : ts.length ≤ 1000) (hpg : ∀ t ∈ ts, checkP t.prog = (0, 0)) (hbl : ∀ i t, ts[i]? = some t → Bal 3 0 0 t.prog (F i)) (hl0 : 0 ≤ lock) (hlL : lock < L) :
    Calls Tryz.prog 41 #[.agg #[.int .i64 L, .slice ca nc cc, .slice ta ts.length tc], .int .i64 lock] w fun e w' => ∃ va vc, e = .returned (.slice va ts.length vc) ∧ (∀ b f, va = some ⟨b, f, none⟩ → w.heap.size ≤ b) ∧ AtI w' va (secD lock F ts) ∧ Kept w w' := by
  have HA : Hid (AtT w ta ts) := hA
  have HPG : Hid (∀ t ∈ ts, checkP t.prog = (0, 0)) := hpg
  have HBL : Hid (∀ i t, ts[i]? = some t → Bal 3 0 0 t.prog (F i)) := hbl
  have K0 : Kept w (w.alloc (.cells #[.int .i64 L, .slice ca nc cc, .slice ta ts.length tc] 25)) := (Kept.refl w).alloc _
  have HB : Hid (Box w.heap.size (w.alloc (.cells #[.int .i64 L, .slice ca nc cc, .slice ta ts.length tc] 25)) 25 w.heap.size [.int .i64 L, .slice ca nc cc, .slice ta ts.length tc]) := box_new w.heap.size w 25 [.int .i64 L, .slice ca nc cc, .slice ta ts.length tc] (Nat.le_refl _) (by simp)
  have r1 : ¬ (lock < 0) := by omega
  have r2 : ¬ (lock ≥ L) := by omega
  clear hA hpg hbl hl0 hlL
  go_enter Tryz.func41, Tryz.ntmps41
  go_wp2_with fail
  go_loopg [5, 6] ts.length (fun gk x5 i wr => ∃ (k : Nat) (v : Value) (W : World), W = wr ∧ v = x5 ∧ i = .int .i64 k ∧ k + gk = ts.length ∧ Hid (IRow 2 w.heap.size W v ((secD lock F ts).take k)) ∧ Hid (∀ q, v.ownBlock = some q → w.heap.size < q) ∧ Hid (Box w.heap.size W 25 w.heap.size [.int .i64 L, .slice ca nc cc, .slice ta ts.length tc]) ∧ Kept w W)
  case atStart => exact ⟨0, _, _, rfl, rfl, rfl, by omega, IRow.nil _ _ _, (fun q hq => by simp [Value.ownBlock] at hq), HB, K0⟩
  case round =>
    obtain ⟨k, v, W, hW, hv, rfl, hk, HI, HN, HBX, K⟩ := hrel
    subst hW
    subst hv
    have u2 : W.cell? ⟨w.heap.size, 2, none⟩ = some (.slice ta ts.length tc) := HBX.out.cell 2 (by simp)
    by_cases hkL : k < ts.length
    · have b1 : (k : Int) < (ts.length : Int) := by omega
      have b2 : (0 : Int) ≤ (k : Int) := by omega
      obtain ⟨b, f, nm, pd, dl, bu, pr, pa, pc, rfl, hpj, g0, g1, g2, g3, g4, hpc, hat, _, _⟩ := (HA.out.kept K).get k hkL
      have hck := HPG.out _ (List.mem_of_getElem? hpj)
      have hba := HBL.out k _ hpj
      simp only at hck hba
      have hsv : secV lock F ts k = min (secGo lock 0 0 (F k)) (min (costD pr) bu) := by unfold secV; rw [hpj]
      obtain ⟨z1, hz1⟩ : ∃ z, secGo lock 0 0 (F k) = z := ⟨_, rfl⟩
      obtain ⟨z2, hz2⟩ : ∃ z, min (costD pr) bu = z := ⟨_, rfl⟩
      have HN1 : Hid (NeedB 55 #[.slice pa pr.length pc, .int .i64 lock] W z1) := ⟨fun wx kx => by
        have h := rsection_any pa pc pr (F k) lock wx (hat.kept kx) hpc hck hba
        rw [hz1] at h
        exact h⟩
      have HN2 : Hid (NeedB 10 #[.agg #[.string (B nm), .int .i64 pd, .int .i64 dl, .int .i64 bu, .slice pa pr.length pc]] W z2) := ⟨fun wx kx => by
        have h := rneed_any nm pd dl bu pr pa pc wx (hat.kept kx) hpc hck
        rw [hz2] at h
        exact h⟩
      rw [hz1, hz2] at hsv
      have HTK : Hid ((secD lock F ts).take (k + 1) = (secD lock F ts).take k ++ [min z1 z2]) := by show _ = _; rw [secD_take hkL, hsv]
      have hlen : ((secD lock F ts).take k).length ≤ 1000000 := by rw [List.length_take, secD_len]; omega
      obtain ⟨gi, rfl⟩ : ∃ g, gk = g + 1 := ⟨gk - 1, by omega⟩
      clear hpj hat hck hba hz1 hz2 hsv
      go_wp2_with fail
      refine (HN1.out.run _ (Kept.refl W)).mono ?_
      rintro e w3 ⟨rfl, K3⟩
      have m0 := K3.cell g0
      have m1 := K3.cell g1
      have m2 := K3.cell g2
      have m3 := K3.cell g3
      have m4 := K3.cell g4
      have m5 := K3.cell u2
      go_wp2_with fail
      refine (HN2.out.run _ K3).mono ?_
      rintro e w4 ⟨rfl, K4⟩
      have K34 := K3.trans K4
      clear m0 m1 m2 m3 m4 m5 K3 K4
      by_cases hgt : z1 > z2
      · have m0 := K34.cell g0
        have m1 := K34.cell g1
        have m2 := K34.cell g2
        have m3 := K34.cell g3
        have m4 := K34.cell g4
        have m5 := K34.cell u2
        have HTZ : Hid ((secD lock F ts).take (k + 1) = (secD lock F ts).take k ++ [z2]) := by have h := HTK.out; rw [show min z1 z2 = z2 by omega] at h; exact h
        clear HTK
        go_wp2_with fail
        refine (HN2.out.run _ K34).mono ?_
        rintro e w5 ⟨rfl, K5⟩
        have K35 := K34.trans K5
        have HI5 : Hid (IRow 2 w.heap.size w5 v ((secD lock F ts).take k)) := HI.out.kept K35
        have HB5 : Hid (Box w.heap.size w5 25 w.heap.size [.int .i64 L, .slice ca nc cc, .slice (some ⟨b, f, none⟩) ts.length tc]) := HBX.out.kept K35
        have KS := K.trans K35
        clear m0 m1 m2 m3 m4 m5 K34 K5 K35 g0 g1 g2 g3 g4 u2
        go_wp2_with (at_builtin; refine wpList_append_int n64 _ (by rfl) _ _ rfl w.heap.size v ((secD lock F ts).take k) z2 w5 (by rfl) (by rfl) w5.heap.size (by rfl) (by rfl) HI5.out hlen KS.size ?_; intro g6 c6 w6 R6 gr6 at6; have T6 : Turns (fun k => v.ownBlock = some k) w5 w6 := ((Turns.refl _ w5).alloc _).trans (Turns.grown gr6 (fun k e => e)); have K6 : Kept w w6 := T6.kept KS (fun i hi => (World.ownsRow.lt HI5.out i hi).1); have HB6 : Hid (Box w.heap.size w6 25 w.heap.size [.int .i64 L, .slice ca nc cc, .slice (some ⟨b, f, none⟩) ts.length tc]) := HB5.out.turns T6 (fun e => by have := HN.out _ e; omega); have N6 : w.heap.size < g6 := (by rcases at6 with h | h; exact HN.out _ h; have := HB5.out.lt.2; omega); have HR6 : Hid (IRow 2 w.heap.size w6 (.slice (some ⟨g6, 0, none⟩) (min k (secD lock F ts).length + 1) c6) ((secD lock F ts).take (k + 1))) := (by show IRow _ _ _ _ _; rw [HTZ.out]; rw [List.length_take] at R6; exact R6); clear R6)
        go_roundg gi
        case rel => exact ⟨k + 1, _, _, rfl, rfl, by go_num, by omega, HR6.out, (fun q hq => by simp [Value.ownBlock] at hq; omega), HB6, K6⟩
        case measure => omega
      · have HTZ : Hid ((secD lock F ts).take (k + 1) = (secD lock F ts).take k ++ [z1]) := by have h := HTK.out; rw [show min z1 z2 = z1 by omega] at h; exact h
        have HI5 : Hid (IRow 2 w.heap.size w4 v ((secD lock F ts).take k)) := HI.out.kept K34
        have HB5 : Hid (Box w.heap.size w4 25 w.heap.size [.int .i64 L, .slice ca nc cc, .slice (some ⟨b, f, none⟩) ts.length tc]) := HBX.out.kept K34
        have KS := K.trans K34
        clear HTK K34 g0 g1 g2 g3 g4 u2
        go_wp2_with (at_builtin; refine wpList_append_int n64 _ (by rfl) _ _ rfl w.heap.size v ((secD lock F ts).take k) z1 w4 (by rfl) (by rfl) w4.heap.size (by rfl) (by rfl) HI5.out hlen KS.size ?_; intro g6 c6 w6 R6 gr6 at6; have T6 : Turns (fun k => v.ownBlock = some k) w4 w6 := ((Turns.refl _ w4).alloc _).trans (Turns.grown gr6 (fun k e => e)); have K6 : Kept w w6 := T6.kept KS (fun i hi => (World.ownsRow.lt HI5.out i hi).1); have HB6 : Hid (Box w.heap.size w6 25 w.heap.size [.int .i64 L, .slice ca nc cc, .slice (some ⟨b, f, none⟩) ts.length tc]) := HB5.out.turns T6 (fun e => by have := HN.out _ e; omega); have N6 : w.heap.size < g6 := (by rcases at6 with h | h; exact HN.out _ h; have := HB5.out.lt.2; omega); have HR6 : Hid (IRow 2 w.heap.size w6 (.slice (some ⟨g6, 0, none⟩) (min k (secD lock F ts).length + 1) c6) ((secD lock F ts).take (k + 1))) := (by show IRow _ _ _ _ _; rw [HTZ.out]; rw [List.length_take] at R6; exact R6); clear R6)
        go_roundg gi
        case rel => exact ⟨k + 1, _, _, rfl, rfl, by go_num, by omega, HR6.out, (fun q hq => by simp [Value.ownBlock] at hq; omega), HB6, K6⟩
        case measure => omega
    · have b1 : ¬ (k : Int) < (ts.length : Int) := by omega
      have HI3 : Hid (IRow 2 w.heap.size W v (secD lock F ts)) := by have h := HI.out; rw [List.take_of_length_le (by rw [secD_len]; omega)] at h; exact h
      obtain ⟨va, vc, hv, A5⟩ := irow_view HI3.out
      rw [secD_len] at hv
      subst hv
      have HF : Hid (AtI W va (secD lock F ts)) := A5
      have HFR : Hid (∀ b f, va = some ⟨b, f, none⟩ → w.heap.size ≤ b) := fun b f e => by
        subst e
        exact (World.ownsRow.lt HI3.out b rfl).1
      clear A5
      go_wp2_with fail
      go_ret
      exact ⟨va, ⟨vc, rfl⟩, HFR.out, HF.out, K⟩
end Go.Proofs.YtlkbphogpbcjfaaGreatDoor
namespace Go.Proofs.YtlkbphogpbcjfaaGreatDoor
open Go.RowKit Go.Sort

theorem taskE_all {L nc : Int} {ts : List TaskD} {i : Nat} {t : TaskD} (h : taskE L nc ts i t = 0) : (checkP t.prog).2 = 0 ∧ timesB t = true ∧ hasAllB L nc t.prog = true := by
  unfold taskE at h
  split at h
  · split at h
    · simp at h
    · split at h
      · rename_i ht
        split at h
        · rename_i hp
          split at h
          · simp at h
          · split at h
            · rename_i ha
              exact ⟨hp, ht, ha⟩
            · simp at h
        · rename_i hp
          exact absurd h hp
      · simp at h
  · simp at h
theorem tasksGo_all (L nc : Int) (ts : List TaskD) : ∀ (l : List TaskD) (i : Nat), (tasksGo L nc ts i l).2 = 0 → ∀ t ∈ l, (checkP t.prog).2 = 0 ∧ timesB t = true ∧ hasAllB L nc t.prog = true
  | [], _, _, t, ht => by cases ht
  | x :: r, i, h, t, ht => by
    rw [tasksGo] at h
    split at h
    · rename_i hx
      rcases List.mem_cons.1 ht with rfl | ht
      · exact taskE_all hx
      · exact tasksGo_all L nc ts r (i + 1) h t ht
    · rename_i hx
      exact absurd h hx
theorem checkS_all {L : Int} {cs : List ChanD} {ts : List TaskD} (h : (checkS L cs ts).2 = 0) : ∀ t ∈ ts, (checkP t.prog).2 = 0 ∧ timesB t = true ∧ hasAllB L cs.length t.prog = true := by
  unfold checkS at h
  split at h
  · simp at h
  · split at h
    · simp at h
    · split at h
      · exact tasksGo_all _ _ _ _ _ h
      · rename_i hx
        exact absurd h hx
theorem prog_0 {p : List OpD} (h : (checkP p).2 = 0) : checkP p = (0, 0) := by
  unfold checkP at *
  split at h
  · simp at h
  · rename_i h1
    rw [if_neg h1]
    split at h
    · rename_i h2
      rw [if_pos h2]
      split at h
      · rename_i h3
        rw [if_pos h3]
        split at h
        · simp at h
        · rename_i h4
          rw [if_neg h4]
      · rename_i h3
        exact absurd h h3
    · rename_i h2
      exact absurd h h2
theorem hasAll_at {L nc : Int} : ∀ {p : List OpD}, hasAllB L nc p = true → ∀ o ∈ p, hasB L nc o = true
  | [], _, o, ho => by cases ho
  | x :: r, h, o, ho => by
    rw [hasAllB] at h
    split at h
    · rename_i hx
      rcases List.mem_cons.1 ho with rfl | ho
      · exact hx
      · exact hasAll_at h o ho
    · cases h
theorem lockNs_mem : ∀ (p : List OpD) (x : Int), x ∈ lockNs p ↔ ∃ o ∈ p, o.kind = 2 ∧ o.n = x
  | [], x => by simp [lockNs]
  | o :: r, x => by
    have ih := lockNs_mem r x
    by_cases hk : o.kind = 2
    · simp [lockNs, hk, ih, eq_comm]
    · simp [lockNs, hk, ih]
/-- The locks of what is taken are the set's. -/
theorem locks_in {L nc : Int} {p : List OpD} (hk : checkP p = (0, 0)) (h : hasAllB L nc p = true) : ∀ x ∈ locksD p, 0 ≤ x ∧ x < L := by
  intro x hx
  rw [locksD_mem, lockNs_mem] at hx
  obtain ⟨o, ho, h2, rfl⟩ := hx
  have h1 := hasAll_at h o ho
  have hc := (taken_prog hk).2.1 o ho
  refine ⟨op_pos hc, ?_⟩
  unfold hasB at h1
  rw [if_pos (.inl h2)] at h1
  simpa using h1
theorem secR_none (lock : Int) : ∀ (f : List OpD) (x n : Int), (∀ o ∈ f, ¬ (o.kind = 2 ∧ o.n = lock)) → secR lock x n false f = x
  | [], _, _, _ => rfl
  | o :: r, x, n, h => by
    have h0 := h o (by simp)
    have e1 : hR lock false o = false := by
      unfold hR
      by_cases h2 : o.kind = 2
      · rw [if_pos h2, if_neg (fun e => h0 ⟨h2, e⟩)]
      · rw [if_neg h2]
        split
        · split <;> rfl
        · rfl
    rw [secR, e1, if_neg (by simp)]
    exact secR_none lock r x _ (fun o ho => h o (by simp [ho]))
theorem sec_zero {p f : List OpD} {k : Nat} (hk : checkP p = (0, 0)) (hb : Bal 3 0 0 p f) (h : (locksD p).contains (k : Int) = false) : secGo (k : Int) 0 0 f = 0 := by
  have hc := (taken_prog hk).2.1
  rw [← rsec_all (k : Int) (balf hb) (fun o ho => op_pos (hc o (bal_mem hb o ho).1))]
  refine secR_none _ f 0 0 (fun o ho h2 => ?_)
  have hm : (k : Int) ∈ locksD p := by
    rw [locksD_mem, lockNs_mem]
    exact ⟨o, (bal_mem hb o ho).1, h2.1, h2.2⟩
  rw [Bool.eq_false_iff] at h
  exact h (by simpa using hm)
theorem need_nn {t : TaskD} (hk : checkP t.prog = (0, 0)) (ht : timesB t = true) : 0 ≤ min (costD t.prog) t.budget := by
  obtain ⟨_, hc, _, f, hb, _⟩ := taken_prog hk
  have h1 := (costF_bd f (fun o ho => hc o (bal_mem hb o ho).1)).1
  rw [← cost_len hb hc] at h1
  simp [timesB] at ht
  omega
/-- One of those who have it has the ceiling; or none has it. -/
theorem ceilV_hit (E : Nat → Int) (h : Nat → Bool) : ∀ n, ceilV E h n = 0 ∨ ∃ i, i < n ∧ h i = true ∧ ceilV E h n = E i
  | 0 => .inl rfl
  | n + 1 => by
    rw [ceilV]
    split
    · rename_i hh
      by_cases hm : ceilV E h n ≤ E n
      · exact .inr ⟨n, by omega, hh, by omega⟩
      · rcases ceilV_hit E h n with e | ⟨i, hi, h1, h2⟩
        · exact .inl (by omega)
        · exact .inr ⟨i, by omega, h1, by omega⟩
    · rcases ceilV_hit E h n with e | ⟨i, hi, h1, h2⟩
      · exact .inl e
      · exact .inr ⟨i, by omega, h1, h2⟩
def oneB (cv : Int) (E : Nat → Int) (h : Nat → Bool) : Nat → Bool
  | 0 => cv == 0
  | n + 1 => oneB cv E h n || (h n && cv == E n)
theorem oneB_mono (cv : Int) (E : Nat → Int) (h : Nat → Bool) : ∀ (m n : Nat), oneB cv E h n = true → oneB cv E h (n + m) = true
  | 0, n, hn => hn
  | m + 1, n, hn => by
    rw [Nat.add_succ, oneB, oneB_mono cv E h m n hn]
    rfl
theorem oneB_all (E : Nat → Int) (h : Nat → Bool) (n : Nat) : oneB (ceilV E h n) E h n = true := by
  rcases ceilV_hit E h n with e | ⟨i, hi, h1, h2⟩
  · have := oneB_mono (ceilV E h n) E h n 0 (by simp [oneB, e])
    rwa [Nat.zero_add] at this
  · have h3 : oneB (ceilV E h n) E h (i + 1) = true := by simp [oneB, h1, h2]
    have := oneB_mono _ E h (n - (i + 1)) (i + 1) h3
    rwa [show i + 1 + (n - (i + 1)) = n by omega] at this
def someK (l : List Int) (k : Int) : Bool := l.contains k
theorem some_next {l : List Int} {j : Nat} {x : Int} (k : Int) (h : l[j]? = some x) : someK (l.take (j + 1)) k = (someK (l.take j) k || x == k) := by
  unfold someK
  rw [List.take_add_one, h, Bool.eq_iff_iff]
  simp only [List.contains_iff_mem, List.mem_append, Bool.or_eq_true, beq_iff_eq, Option.toList_some, List.mem_singleton]
  constructor
  · rintro (h | h)
    · exact .inl h
    · exact .inr h.symm
  · rintro (h | h)
    · exact .inl h
    · exact .inr h.symm
end Go.Proofs.YtlkbphogpbcjfaaGreatDoor
