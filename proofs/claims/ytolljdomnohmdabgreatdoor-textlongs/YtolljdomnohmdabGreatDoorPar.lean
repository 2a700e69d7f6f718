/- Parse. -/
import Derived.Test.YtolljdomnohmdabGreatDoorRead
import Derived.Test.YtolljdomnohmdabGreatDoorM4
import Derived.Test.YtolljdomnohmdabGreatDoorM2
namespace Go.Proofs.YtolljdomnohmdabGreatDoor
open Go.RowKit

theorem Rdy.seven {w : World} (h : Rdy w) : 7 ≤ w.heap.size := by
  obtain ⟨tp, p, hv⟩ := h.er
  exact var_lt gErr hv
theorem joinW_mem : ∀ (ls : List (List UInt8)) (x : List UInt8), x ∈ ls → x.length ≤ (joinW ls).length
  | [], x, h => by simp at h
  | [y], x, h => by simp at h; subst h; simp [joinW]
  | y :: z :: r, x, h => by
    rw [joinW]
    rcases List.mem_cons.1 h with h | h
    · subst h; simp
    · have := joinW_mem (z :: r) x h
      simp; omega
theorem splitOf_len {s : List UInt8} {ws : List (List UInt8)} (h : splitOf s = some ws) : ws.length ≤ s.length + 1 := by
  unfold splitOf at h
  split at h
  · cases h; simp
  · exact splitGo_len s [] ws h
theorem splitOf_mem {s : List UInt8} {ws : List (List UInt8)} (h : splitOf s = some ws) : ∀ x ∈ ws, x.length ≤ s.length := by
  intro x hx
  have := joinW_mem ws x hx
  rw [splitOf_join s ws h] at this
  exact this

theorem len1 {r : List (List UInt8)} (h : r.length = 1) : ∃ x, r = [x] := by
  rcases r with _ | ⟨x, _ | ⟨y, r⟩⟩
  · simp at h
  · exact ⟨x, rfl⟩
  · simp at h
theorem len2 {r : List (List UInt8)} (h : r.length = 2) : ∃ x y, r = [x, y] := by
  rcases r with _ | ⟨x, _ | ⟨y, _ | ⟨z, r⟩⟩⟩ <;> simp at h
  exact ⟨x, y, rfl⟩
theorem len3 {r : List (List UInt8)} (h : r.length = 3) : ∃ x y z, r = [x, y, z] := by
  rcases r with _ | ⟨x, _ | ⟨y, _ | ⟨z, _ | ⟨q, r⟩⟩⟩⟩ <;> simp at h
  exact ⟨x, y, z, rfl⟩

theorem read_any (k : Nat) (h1 : 1 ≤ k) (h9 : k ≤ 9) (x : List UInt8) (r : List (List UInt8)) (hf : fitsB (shapeOf k) (x :: r) = true) (a : Option Addr) (m : Nat) (w : World) (hr : Rdy w) (hA : At w a r.length r) (hm : r.length ≤ m) (hb : ∀ b f, a = some ⟨b, f, none⟩ → b < w.heap.size) (hl : r.length ≤ 100000) (hx : ∀ y ∈ r, y.length ≤ 100000) :
    Calls Tryz.prog 85 #[.int .i64 k, .slice a r.length m] w fun en w' => ∃ n v wt sv cs e, en = .returned (.tuple #[.agg #[.int .i64 k, .int .i64 n, .int .i64 v, .int .i64 wt, sv], .int .i64 e]) ∧ RdA k r n v wt cs e ∧ CRow 57 w.heap.size w' sv cs ∧ Kept w w' := by
  have h7 := hr.seven
  have hk : k = 1 ∨ k = 2 ∨ k = 3 ∨ k = 4 ∨ k = 5 ∨ k = 6 ∨ k = 7 ∨ k = 8 ∨ k = 9 := by omega
  rcases hk with rfl | rfl | rfl | rfl | rfl | rfl | rfl | rfl | rfl
  · obtain ⟨x, rfl⟩ := len1 (r := r) (by simpa [fitsB, aheadN, shapeOf] using hf)
    exact read_k1 a m x w hr h7 hA hm hb (hx x (by simp))
  · obtain ⟨x, rfl⟩ := len1 (r := r) (by simpa [fitsB, aheadN, shapeOf] using hf)
    exact read_k2 a m x w hr h7 hA hm hb (hx x (by simp))
  · obtain ⟨x, rfl⟩ := len1 (r := r) (by simpa [fitsB, aheadN, shapeOf] using hf)
    exact read_k3 a m x w hr h7 hA hm hb (hx x (by simp))
  · obtain ⟨x, y, z, rfl⟩ := len3 (r := r) (by simpa [fitsB, aheadN, shapeOf] using hf)
    exact read_k4 a m x y z w hr h7 hA hm hb (hx x (by simp)) (hx y (by simp)) (hx z (by simp))
  · obtain ⟨x, z, rfl⟩ := len2 (r := r) (by simpa [fitsB, aheadN, shapeOf] using hf)
    exact read_k5 a m x z w hr h7 hA hm hb (hx x (by simp)) (hx z (by simp))
  · obtain ⟨x, rfl⟩ := len1 (r := r) (by simpa [fitsB, aheadN, shapeOf] using hf)
    exact read_k6 a m x w hr h7 hA hm hb (hx x (by simp))
  · rcases r with _ | ⟨z, t⟩
    · exact absurd hf (by simp [fitsB, aheadN, shapeOf])
    · have ha : areB t = true := by
        unfold fitsB at hf
        rw [if_neg (by simp [aheadN, shapeOf])] at hf
        exact hf
      exact read_k7 a m z t w hr h7 hA hm hb (hx z (by simp)) (fun y hy => hx y (by simp [hy])) ha (by simp at hl; omega)
  · obtain ⟨x, rfl⟩ := len1 (r := r) (by simpa [fitsB, aheadN, shapeOf] using hf)
    exact read_k8 a m x w hr h7 hA hm hb (hx x (by simp))
  · have : r = [] := List.eq_nil_of_length_eq_zero (by simpa [fitsB, aheadN, shapeOf] using hf)
    subst this
    exact read_k9 a m w hr h7 hA hm hb
/-- The length of what is read. -/
theorem StrRow.view {base : Nat} {w : World} {v : Value} {l : List (List UInt8)} (h : StrRow base w v l) : ∃ a c, v = .slice a l.length c ∧ l.length ≤ c ∧ At w a l.length l := by
  obtain ⟨a, c, rfl, hat⟩ := h.at
  refine ⟨a, c, rfl, ?_, hat⟩
  rcases h.2 with ⟨h1, h2⟩ | ⟨g, cap, cur, h1, _, _, h3, _⟩
  · simp only [Value.slice.injEq] at h1; omega
  · simp only [Value.slice.injEq] at h1; omega
theorem casesOf_len : ∀ (n : Nat) (ws : List (List UInt8)), ws.length ≤ n → (casesOf ws).1.length ≤ ws.length
  | _, [], _ => by simp [casesOf]
  | _, [_], _ => by simp [casesOf]
  | 0, _ :: _ :: _, h => by simp at h
  | n + 1, k :: a :: r, h => by
    have hc : ∀ c x, (consC c x).1.length ≤ x.1.length + 1 := by intro c x; unfold consC; split <;> simp
    rw [casesOf_cons]
    split
    · split
      · cases r with
        | nil => simp
        | cons b r' =>
          simp only
          split
          · have := casesOf_len n r' (by simp at h; omega)
            have h2 := hc ⟨true, (numOf a).1, (numOf b).1⟩ (casesOf r')
            simp only [List.length_cons] at *
            omega
          · simp
      · have := casesOf_len n r (by simp at h; omega)
        have h2 := hc ⟨false, (numOf a).1, 0⟩ (casesOf r)
        simp only [List.length_cons] at *
        omega
    · simp
theorem readD_len (k : Nat) (r : List (List UInt8)) : (readD k r).1.cases.length ≤ r.length := by
  unfold readD
  split
  · split <;> (try split) <;> (try split) <;> (try split) <;> simp [zeroD]
  · split
    · split <;> (try split) <;> (try split) <;> simp [zeroD]
    · split
      · split
        · rename_i c t
          split
          · split
            · have := casesOf_len t.length t (Nat.le_refl _)
              simp only [List.length_cons]
              omega
            · simp [zeroD]
          · simp [zeroD]
        · simp [zeroD]
      · split
        · split <;> simp [zeroD]
        · split <;> (try split) <;> simp [zeroD]

theorem parse_none {s : List UInt8} (h : splitOf s = none) : parseD s = (zeroD, 2) := by unfold parseD; rw [h]
theorem parse_kind {s : List UInt8} {ws : List (List UInt8)} (h : splitOf s = some ws) (hk : kindL ws = 0) : parseD s = (zeroD, 2) := by
  unfold parseD
  rw [h]
  cases ws with
  | nil => rfl
  | cons x r =>
    show parseW (x :: r) = _
    unfold parseW
    simp only
    rw [if_pos (show kindOf x = 0 from hk)]
theorem parse_fit {s x : List UInt8} {r : List (List UInt8)} (h : splitOf s = some (x :: r)) (hk : kindOf x ≠ 0) (hf : fitsB (shapeOf (kindOf x)) (x :: r) = false) : parseD s = (zeroD, 2) := by
  unfold parseD
  rw [h]
  show parseW (x :: r) = _
  unfold parseW
  simp only
  rw [if_neg hk, if_neg (by rw [hf]; decide)]
theorem parse_read {s x : List UInt8} {r : List (List UInt8)} (h : splitOf s = some (x :: r)) (hk : kindOf x ≠ 0) (hf : fitsB (shapeOf (kindOf x)) (x :: r) = true) : parseD s = checked (readD (kindOf x) r) := by
  unfold parseD
  rw [h]
  show parseW (x :: r) = _
  unfold parseW
  simp only
  rw [if_neg hk, if_pos hf]

set_option maxHeartbeats 4000000 in
set_option maxRecDepth 10000 in
theorem parse_any (s : List UInt8) (hl : s.length ≤ 1000) (w : World) (hr : Rdy w) :
    Calls Tryz.prog 62 #[.string (B s)] w fun en w' => ∃ sv, en = .returned (.tuple #[.agg #[.int .i64 (parseD s).1.kind, .int .i64 (parseD s).1.n, .int .i64 (parseD s).1.v, .int .i64 (parseD s).1.wait, sv], .int .i64 (parseD s).2]) ∧ CRow 57 w.heap.size w' sv (parseD s).1.cases ∧ Kept w w' := by
  have HR : Hid (Rdy w) := hr
  have A0 := box_new w.heap.size w 37 [.int .i64 0, .int .i64 0, .int .i64 0, .int .i64 0, .slice none 0 0] (Nat.le_refl _) (by simp)
  have K0 := (Kept.refl w).alloc (.cells #[.int .i64 0, .int .i64 0, .int .i64 0, .int .i64 0, .slice none 0 0] 37)
  have hsp := split_any s (by omega) _ (hr.kept K0)
  clear hr
  cases hso : splitOf s with
  | none =>
    rw [hso, show splitE none = 2 from rfl] at hsp
    have HP : Hid (parseD s = (zeroD, 2)) := parse_none hso
    clear hso
    go_enter Tryz.func62, Tryz.ntmps62
    go_wp2_with fail
    refine hsp.mono ?_
    rintro e w1 ⟨v1, rfl, r1, t1⟩
    have A1 := A0.kept t1
    have K1 := K0.trans t1
    clear r1
    have p0 : w1.cell? ⟨w.heap.size, 0, none⟩ = some (.int .i64 0) := A1.cell 0 (by simp)
    have pf0 := A1.frozen 0
    have p1 : w1.cell? ⟨w.heap.size, 1, none⟩ = some (.int .i64 0) := A1.cell 1 (by simp)
    have pf1 := A1.frozen 1
    have p2 : w1.cell? ⟨w.heap.size, 2, none⟩ = some (.int .i64 0) := A1.cell 2 (by simp)
    have pf2 := A1.frozen 2
    have p3 : w1.cell? ⟨w.heap.size, 3, none⟩ = some (.int .i64 0) := A1.cell 3 (by simp)
    have pf3 := A1.frozen 3
    have p4 : w1.cell? ⟨w.heap.size, 4, none⟩ = some (.slice none 0 0) := A1.cell 4 (by simp)
    have pf4 := A1.frozen 4
    have pl := A1.lt.2
    go_wp2_with fail
    (try simp only [Exit.inBlock, Exit.then])
    refine bodyPost_ret (v := .tuple #[.agg #[.int .i64 0, .int .i64 0, .int .i64 0, .int .i64 0, .slice none 0 0], .int .i64 2]) ?_ rfl ⟨.slice none 0 0, by rw [HP.out]; rfl, by rw [HP.out]; exact CRow.nil _ _ _, (turn_set5 w1 w.heap.size (.int .i64 0) (.int .i64 0) (.int .i64 0) (.int .i64 0) (.slice none 0 0)).kept K1 (fun i hi => by omega)⟩
    rw [results_cell_tmp rfl]
    go_simp
  | some ws =>
    rw [hso, show splitE (some ws) = 0 from rfl, show splitR (some ws) = ws from rfl] at hsp
    have hwl := splitOf_len hso
    have HWX : Hid (∀ x ∈ ws, x.length ≤ s.length) := splitOf_mem hso
    have HSO : Hid (splitOf s = some ws) := hso
    clear hso
    go_enter Tryz.func62, Tryz.ntmps62
    go_wp2_with fail
    refine hsp.mono ?_
    rintro e w1 ⟨v1, rfl, r1, t1⟩
    have A1 := A0.kept t1
    have K1 := K0.trans t1
    obtain ⟨a1, c1, hv1, hcap, hat1⟩ := StrRow.view r1
    subst hv1
    have HA1 : Hid (At w1 a1 ws.length ws) := hat1
    clear hat1 r1 hsp
    go_wp2_with fail
    refine (kindOf_any a1 c1 ws w1 (HR.out.kept K1) HA1.out (by omega)).mono ?_
    rintro e w2 ⟨rfl, t2⟩
    have A2 := A1.kept t2
    have K2 := K1.trans t2
    by_cases hk0 : kindL ws = 0
    · have HP : Hid (parseD s = (zeroD, 2)) := parse_kind HSO.out hk0
      rw [hk0]
      have hik := isKind_any 0 w2
      rw [show isKindB 0 = false from rfl] at hik
      clear hk0
      go_wp2_with fail
      refine hik.mono ?_
      rintro e w3 ⟨rfl, hw⟩
      subst w3
      have p0 : w2.cell? ⟨w.heap.size, 0, none⟩ = some (.int .i64 0) := A2.cell 0 (by simp)
      have pf0 := A2.frozen 0
      have p1 : w2.cell? ⟨w.heap.size, 1, none⟩ = some (.int .i64 0) := A2.cell 1 (by simp)
      have pf1 := A2.frozen 1
      have p2 : w2.cell? ⟨w.heap.size, 2, none⟩ = some (.int .i64 0) := A2.cell 2 (by simp)
      have pf2 := A2.frozen 2
      have p3 : w2.cell? ⟨w.heap.size, 3, none⟩ = some (.int .i64 0) := A2.cell 3 (by simp)
      have pf3 := A2.frozen 3
      have p4 : w2.cell? ⟨w.heap.size, 4, none⟩ = some (.slice none 0 0) := A2.cell 4 (by simp)
      have pf4 := A2.frozen 4
      have pl := A2.lt.2
      go_wp2_with fail
      (try simp only [Exit.inBlock, Exit.then])
      refine bodyPost_ret (v := .tuple #[.agg #[.int .i64 0, .int .i64 0, .int .i64 0, .int .i64 0, .slice none 0 0], .int .i64 2]) ?_ rfl ⟨.slice none 0 0, by rw [HP.out]; rfl, by rw [HP.out]; exact CRow.nil _ _ _, (turn_set5 w2 w.heap.size (.int .i64 0) (.int .i64 0) (.int .i64 0) (.int .i64 0) (.slice none 0 0)).kept K2 (fun i hi => by omega)⟩
      rw [results_cell_tmp rfl]
      go_simp
    · cases ws with
      | nil => exact absurd rfl hk0
      | cons x r =>
        have hkk := kindOf_word hk0
        have hk1 := hkk.2.1
        have hk9 := hkk.2.2
        have HK : Hid (kindOf x ≠ 0) := hk0
        have HSH : Hid (1 ≤ kindOf x ∧ kindOf x ≤ 9) := ⟨hk1, hk9⟩
        rw [show kindL (x :: r) = kindOf x from rfl]
        obtain ⟨K, hK⟩ : ∃ z, kindOf x = z := ⟨_, rfl⟩
        have HKK : Hid (kindOf x = K) := hK
        rw [hK] at hk1 hk9 ⊢
        clear hk0 hkk hK
        have hik := isKind_any (K : Int) w2
        rw [show isKindB (K : Int) = true by unfold isKindB; simp; omega] at hik
        have b1 : (K : Int) < 10 := by omega
        have b2 : (0 : Int) ≤ (K : Int) := by omega
        have hsh := (HR.out.kept K2).sh K hk9
        obtain ⟨sh, hshe⟩ : ∃ z, shapeOf K = z := ⟨_, rfl⟩
        rw [hshe] at hsh
        have HSE : Hid (shapeOf K = sh) := hshe
        clear hshe
        obtain ⟨wd, fn, fv, fw, fp, le, mo⟩ := sh
        have g0 : w2.cell? ⟨0, K * 7, none⟩ = some (.string (B wd)) := hsh 0 _ rfl
        have g1 : w2.cell? ⟨0, K * 7 + 1, none⟩ = some (.bool fn) := hsh 1 _ rfl
        have g2 : w2.cell? ⟨0, K * 7 + 2, none⟩ = some (.bool fv) := hsh 2 _ rfl
        have g3 : w2.cell? ⟨0, K * 7 + 3, none⟩ = some (.bool fw) := hsh 3 _ rfl
        have g4 : w2.cell? ⟨0, K * 7 + 4, none⟩ = some (.bool fp) := hsh 4 _ rfl
        have g5 : w2.cell? ⟨0, K * 7 + 5, none⟩ = some (.int .i64 le) := hsh 5 _ rfl
        have g6 : w2.cell? ⟨0, K * 7 + 6, none⟩ = some (.int .i64 mo) := hsh 6 _ rfl
        clear hsh
        have hfit := fits_any wd fn fv fw fp le mo a1 c1 (x :: r) w2 (HA1.out.kept t2) hcap
        cases hf : fitsB ⟨wd, fn, fv, fw, fp, le, mo⟩ (x :: r) with
        | false =>
          have HP : Hid (parseD s = (zeroD, 2)) := parse_fit HSO.out HK.out (by rw [HKK.out, HSE.out]; exact hf)
          rw [hf] at hfit
          clear hf
          go_wp2_with fail
          refine hik.mono ?_
          rintro e w3 ⟨rfl, hw⟩
          subst w3
          go_wp2_with fail
          refine hfit.mono ?_
          rintro e w3 ⟨rfl, t3⟩
          have A3 := A2.kept t3
          have K3 := K2.trans t3
          have p0 : w3.cell? ⟨w.heap.size, 0, none⟩ = some (.int .i64 0) := A3.cell 0 (by simp)
          have pf0 := A3.frozen 0
          have p1 : w3.cell? ⟨w.heap.size, 1, none⟩ = some (.int .i64 0) := A3.cell 1 (by simp)
          have pf1 := A3.frozen 1
          have p2 : w3.cell? ⟨w.heap.size, 2, none⟩ = some (.int .i64 0) := A3.cell 2 (by simp)
          have pf2 := A3.frozen 2
          have p3 : w3.cell? ⟨w.heap.size, 3, none⟩ = some (.int .i64 0) := A3.cell 3 (by simp)
          have pf3 := A3.frozen 3
          have p4 : w3.cell? ⟨w.heap.size, 4, none⟩ = some (.slice none 0 0) := A3.cell 4 (by simp)
          have pf4 := A3.frozen 4
          have pl := A3.lt.2
          go_wp2_with fail
          (try simp only [Exit.inBlock, Exit.then])
          refine bodyPost_ret (v := .tuple #[.agg #[.int .i64 0, .int .i64 0, .int .i64 0, .int .i64 0, .slice none 0 0], .int .i64 2]) ?_ rfl ⟨.slice none 0 0, by rw [HP.out]; rfl, by rw [HP.out]; exact CRow.nil _ _ _, (turn_set5 w3 w.heap.size (.int .i64 0) (.int .i64 0) (.int .i64 0) (.int .i64 0) (.slice none 0 0)).kept K3 (fun i hi => by omega)⟩
          rw [results_cell_tmp rfl]
          go_simp
        | true =>
          have HP : Hid (parseD s = checked (readD K r)) := by show _ = _; rw [← HKK.out]; exact parse_read HSO.out HK.out (by rw [HKK.out, HSE.out]; exact hf)
          have HF : Hid (fitsB (shapeOf K) (x :: r) = true) := by show _ = _; rw [HSE.out]; exact hf
          rw [hf] at hfit
          clear hf
          obtain ⟨b, f, rfl, hbx, _⟩ := (HA1.out.kept t2).head
          have hbl : b < w2.heap.size := cell_lt hbx
          clear hbx
          go_wp2_with fail
          refine hik.mono ?_
          rintro e w3 ⟨rfl, hw⟩
          subst w3
          go_wp2_with fail
          refine hfit.mono ?_
          rintro e w3 ⟨rfl, t3⟩
          have A3 := A2.kept t3
          have K3 := K2.trans t3
          have hs3 := t3.size
          have hd := ((HA1.out.kept t2).kept t3).drop 1 (by simp)
          have HD : Hid (At w3 (some ⟨b, f + 1, none⟩) r.length r) := by show At _ _ _ _; simpa using hd
          clear hd
          have hrl : r.length ≤ 1001 := by simp at hwl; omega
          have hrx : ∀ y ∈ r, y.length ≤ 100000 := fun y hy => by have := HWX.out y (by simp [hy]); omega
          have hread : ∃ av mv, Hid (Calls Tryz.prog 85 #[.int .i64 K, .slice av r.length mv] w3 fun en w' => ∃ n v wt sv cs e, en = .returned (.tuple #[.agg #[.int .i64 K, .int .i64 n, .int .i64 v, .int .i64 wt, sv], .int .i64 e]) ∧ RdA K r n v wt cs e ∧ CRow 57 w3.heap.size w' sv cs ∧ Kept w3 w') ∧ ((c1 = 1 ∧ r.length = 0 ∧ av = some ⟨b, f, none⟩ ∧ mv = 0) ∨ (c1 ≠ 1 ∧ av = some ⟨b, f + 1, none⟩ ∧ mv = c1 - 1)) := by
            by_cases hc : c1 = 1
            · have hr0 : r = [] := List.eq_nil_of_length_eq_zero (by simp only [List.length_cons] at hcap; omega)
              refine ⟨some ⟨b, f, none⟩, 0, ?_, .inl ⟨hc, by rw [hr0]; rfl, rfl, rfl⟩⟩
              exact read_any K hk1 hk9 x r HF.out _ _ w3 (HR.out.kept K3) (by rw [hr0]; exact At.zero _ _) (by rw [hr0]; simp) (fun b' f' e' => by cases e'; omega) (by omega) hrx
            · refine ⟨some ⟨b, f + 1, none⟩, c1 - 1, ?_, .inr ⟨hc, rfl, rfl⟩⟩
              exact read_any K hk1 hk9 x r HF.out _ _ w3 (HR.out.kept K3) HD.out (by simp only [List.length_cons] at hcap; omega) (fun b' f' e' => by cases e'; omega) (by omega) hrx
          obtain ⟨av, mv, HRD, hway⟩ := hread
          have b3 : (1 : Int) ≤ (c1 : Int) := by simp only [List.length_cons] at hcap; omega
          have b4 : (1 : Int) ≤ (r.length : Int) + 1 := by omega
          have hcl := readD_len K r
          rcases hway with ⟨rfl, hr0, rfl, rfl⟩ | ⟨hc1, rfl, rfl⟩
          · rw [hr0] at HRD
            go_wp2_with fail
            refine HRD.out.mono ?_
            rintro e w4 ⟨n, v, wt, sv, cs, er, rfl, RA, RC, t4⟩
            have A4 := A3.kept t4
            have K4 := K3.trans t4
            obtain ⟨ay, cc, hsv, hcs, hats⟩ := RC.at
            subst hsv
            have HC : Hid (CRow 57 w3.heap.size w4 (.slice ay cs.length cc) cs) := RC
            have HT : Hid (AtC w4 ay cs.length cs) := hats
            clear RC hats
            have A5 := A4.kept ((Kept.refl _).alloc (.cells #[.int .i64 K, .int .i64 n, .int .i64 v, .int .i64 wt, .slice ay cs.length cc] 37))
            have K5 := K4.alloc (.cells #[.int .i64 K, .int .i64 n, .int .i64 v, .int .i64 wt, .slice ay cs.length cc] 37)
            by_cases he : er = 0
            · have hok := RA.ok he
              have hlen : cs.length ≤ 1000000 := by
                have := congrArg (fun o => o.cases.length) hok
                simp [clO] at this
                omega
              have HCK : Hid (checkD ⟨K, n, v, wt, cs⟩ = checkD (readD K r).1) := by show _ = _; rw [hok, checkD_cl cl8]
              have HER : Hid ((readD K r).2 = 0) := by show _ = _; rw [← RA.err, he]
              have HOK : Hid ((⟨K, n, v, wt, cs⟩ : OpD) = clO chan8 (readD K r).1) := hok
              subst he
              clear hok
              go_wp2_with fail
              refine (check_any K n v wt ay cs.length cc cs _ (HR.out.kept K5) (HT.out.kept ((Kept.refl _).alloc _)) hlen hcs).mono ?_
              rintro e w5 ⟨rfl, t5⟩
              have A6 := A5.kept t5
              have K6 := K5.trans t5
              have X5 := (box_new w.heap.size w4 37 [.int .i64 K, .int .i64 n, .int .i64 v, .int .i64 wt, .slice ay cs.length cc] K4.size (by simp)).kept t5
              by_cases hc0 : checkD ⟨K, n, v, wt, cs⟩ = 0
              · have HP2 : Hid (parseD s = (⟨K, n, v, wt, cs⟩, 0)) := by
                  show _ = _
                  have h1 : checkD (readD K r).1 = 0 := by rw [← HCK.out]; exact hc0
                  rw [HP.out, checked, if_pos HER.out, if_pos h1, HOK.out, clO_taken cl8 h1, ← HER.out]
                rw [hc0]
                clear hc0
                have p0 : w5.cell? ⟨w.heap.size, 0, none⟩ = some (.int .i64 0) := A6.cell 0 (by simp)
                have pf0 := A6.frozen 0
                have p1 : w5.cell? ⟨w.heap.size, 1, none⟩ = some (.int .i64 0) := A6.cell 1 (by simp)
                have pf1 := A6.frozen 1
                have p2 : w5.cell? ⟨w.heap.size, 2, none⟩ = some (.int .i64 0) := A6.cell 2 (by simp)
                have pf2 := A6.frozen 2
                have p3 : w5.cell? ⟨w.heap.size, 3, none⟩ = some (.int .i64 0) := A6.cell 3 (by simp)
                have pf3 := A6.frozen 3
                have p4 : w5.cell? ⟨w.heap.size, 4, none⟩ = some (.slice none 0 0) := A6.cell 4 (by simp)
                have pf4 := A6.frozen 4
                have pl := A6.lt.2
                have x0 : w5.cell? ⟨w4.heap.size, 0, none⟩ = some (.int .i64 K) := X5.cell 0 (by simp)
                have x1 : w5.cell? ⟨w4.heap.size, 1, none⟩ = some (.int .i64 n) := X5.cell 1 (by simp)
                have x2 : w5.cell? ⟨w4.heap.size, 2, none⟩ = some (.int .i64 v) := X5.cell 2 (by simp)
                have x3 : w5.cell? ⟨w4.heap.size, 3, none⟩ = some (.int .i64 wt) := X5.cell 3 (by simp)
                have x4 : w5.cell? ⟨w4.heap.size, 4, none⟩ = some (.slice ay cs.length cc) := X5.cell 4 (by simp)
                have xl := X5.lt.2
                have hw4 := K4.size
                have hw3 := K3.size
                have hw2 := A2.lt.2
                have HW : Hid (w.heap.size < w3.heap.size) := by show _ < _; omega
                go_wp2_with fail
                (try simp only [Exit.inBlock, Exit.then])
                have tf := turn_set5 w5 w.heap.size (.int .i64 K) (.int .i64 n) (.int .i64 v) (.int .i64 wt) (.slice ay cs.length cc)
                refine bodyPost_ret (v := .tuple #[.agg #[.int .i64 K, .int .i64 n, .int .i64 v, .int .i64 wt, .slice ay cs.length cc], .int .i64 0]) ?_ rfl ⟨.slice ay cs.length cc, by rw [HP2.out], ?_, tf.kept K6 (fun i hi => by omega)⟩
                · rw [results_cell_tmp rfl]
                  go_simp
                · rw [HP2.out]
                  exact (crow_base ((HC.out.kept ((Kept.refl _).alloc _)).kept t5) hw3).turns tf (fun q hq e => by have := (World.ownsRow.lt HC.out q hq).1; have := HW.out; omega)
              · have hc1 : (checkD ⟨K, n, v, wt, cs⟩ != 0) = true := by simp [hc0]
                have HP2 : Hid (parseD s = (zeroD, checkD ⟨K, n, v, wt, cs⟩)) := by
                  show _ = _
                  rw [HP.out, checked, if_pos HER.out, if_neg (by rw [← HCK.out]; exact hc0), HCK.out]
                clear hc0
                generalize checkD ⟨K, n, v, wt, cs⟩ = ck at *
                have p0 : w5.cell? ⟨w.heap.size, 0, none⟩ = some (.int .i64 0) := A6.cell 0 (by simp)
                have pf0 := A6.frozen 0
                have p1 : w5.cell? ⟨w.heap.size, 1, none⟩ = some (.int .i64 0) := A6.cell 1 (by simp)
                have pf1 := A6.frozen 1
                have p2 : w5.cell? ⟨w.heap.size, 2, none⟩ = some (.int .i64 0) := A6.cell 2 (by simp)
                have pf2 := A6.frozen 2
                have p3 : w5.cell? ⟨w.heap.size, 3, none⟩ = some (.int .i64 0) := A6.cell 3 (by simp)
                have pf3 := A6.frozen 3
                have p4 : w5.cell? ⟨w.heap.size, 4, none⟩ = some (.slice none 0 0) := A6.cell 4 (by simp)
                have pf4 := A6.frozen 4
                have pl := A6.lt.2
                go_wp2_with fail
                (try simp only [Exit.inBlock, Exit.then])
                refine bodyPost_ret (v := .tuple #[.agg #[.int .i64 0, .int .i64 0, .int .i64 0, .int .i64 0, .slice none 0 0], .int .i64 ck]) ?_ rfl ⟨.slice none 0 0, by rw [HP2.out]; rfl, by rw [HP2.out]; exact CRow.nil _ _ _, (turn_set5 w5 w.heap.size (.int .i64 0) (.int .i64 0) (.int .i64 0) (.int .i64 0) (.slice none 0 0)).kept K6 (fun i hi => by omega)⟩
                rw [results_cell_tmp rfl]
                go_simp
            · have he1 : (er == 0) = false := by simp [he]
              have he2 : (er != 0) = true := by simp [he]
              have HP2 : Hid (parseD s = (zeroD, er)) := by
                show _ = _
                rw [HP.out, checked, if_neg (by rw [← RA.err]; exact he), ← RA.err]
              clear he
              have p0 : (w4.alloc (.cells #[.int .i64 K, .int .i64 n, .int .i64 v, .int .i64 wt, .slice ay cs.length cc] 37)).cell? ⟨w.heap.size, 0, none⟩ = some (.int .i64 0) := A5.cell 0 (by simp)
              have pf0 := A5.frozen 0
              have p1 : (w4.alloc (.cells #[.int .i64 K, .int .i64 n, .int .i64 v, .int .i64 wt, .slice ay cs.length cc] 37)).cell? ⟨w.heap.size, 1, none⟩ = some (.int .i64 0) := A5.cell 1 (by simp)
              have pf1 := A5.frozen 1
              have p2 : (w4.alloc (.cells #[.int .i64 K, .int .i64 n, .int .i64 v, .int .i64 wt, .slice ay cs.length cc] 37)).cell? ⟨w.heap.size, 2, none⟩ = some (.int .i64 0) := A5.cell 2 (by simp)
              have pf2 := A5.frozen 2
              have p3 : (w4.alloc (.cells #[.int .i64 K, .int .i64 n, .int .i64 v, .int .i64 wt, .slice ay cs.length cc] 37)).cell? ⟨w.heap.size, 3, none⟩ = some (.int .i64 0) := A5.cell 3 (by simp)
              have pf3 := A5.frozen 3
              have p4 : (w4.alloc (.cells #[.int .i64 K, .int .i64 n, .int .i64 v, .int .i64 wt, .slice ay cs.length cc] 37)).cell? ⟨w.heap.size, 4, none⟩ = some (.slice none 0 0) := A5.cell 4 (by simp)
              have pf4 := A5.frozen 4
              have pl := A5.lt.2
              go_wp2_with fail
              (try simp only [Exit.inBlock, Exit.then])
              refine bodyPost_ret (v := .tuple #[.agg #[.int .i64 0, .int .i64 0, .int .i64 0, .int .i64 0, .slice none 0 0], .int .i64 er]) ?_ rfl ⟨.slice none 0 0, by rw [HP2.out]; rfl, by rw [HP2.out]; exact CRow.nil _ _ _, (turn_set5 (w4.alloc (.cells #[.int .i64 K, .int .i64 n, .int .i64 v, .int .i64 wt, .slice ay cs.length cc] 37)) w.heap.size (.int .i64 0) (.int .i64 0) (.int .i64 0) (.int .i64 0) (.slice none 0 0)).kept K5 (fun i hi => by omega)⟩
              rw [results_cell_tmp rfl]
              go_simp
          · go_wp2_with fail
            refine HRD.out.mono ?_
            rintro e w4 ⟨n, v, wt, sv, cs, er, rfl, RA, RC, t4⟩
            have A4 := A3.kept t4
            have K4 := K3.trans t4
            obtain ⟨ay, cc, hsv, hcs, hats⟩ := RC.at
            subst hsv
            have HC : Hid (CRow 57 w3.heap.size w4 (.slice ay cs.length cc) cs) := RC
            have HT : Hid (AtC w4 ay cs.length cs) := hats
            clear RC hats
            have A5 := A4.kept ((Kept.refl _).alloc (.cells #[.int .i64 K, .int .i64 n, .int .i64 v, .int .i64 wt, .slice ay cs.length cc] 37))
            have K5 := K4.alloc (.cells #[.int .i64 K, .int .i64 n, .int .i64 v, .int .i64 wt, .slice ay cs.length cc] 37)
            by_cases he : er = 0
            · have hok := RA.ok he
              have hlen : cs.length ≤ 1000000 := by
                have := congrArg (fun o => o.cases.length) hok
                simp [clO] at this
                omega
              have HCK : Hid (checkD ⟨K, n, v, wt, cs⟩ = checkD (readD K r).1) := by show _ = _; rw [hok, checkD_cl cl8]
              have HER : Hid ((readD K r).2 = 0) := by show _ = _; rw [← RA.err, he]
              have HOK : Hid ((⟨K, n, v, wt, cs⟩ : OpD) = clO chan8 (readD K r).1) := hok
              subst he
              clear hok
              go_wp2_with fail
              refine (check_any K n v wt ay cs.length cc cs _ (HR.out.kept K5) (HT.out.kept ((Kept.refl _).alloc _)) hlen hcs).mono ?_
              rintro e w5 ⟨rfl, t5⟩
              have A6 := A5.kept t5
              have K6 := K5.trans t5
              have X5 := (box_new w.heap.size w4 37 [.int .i64 K, .int .i64 n, .int .i64 v, .int .i64 wt, .slice ay cs.length cc] K4.size (by simp)).kept t5
              by_cases hc0 : checkD ⟨K, n, v, wt, cs⟩ = 0
              · have HP2 : Hid (parseD s = (⟨K, n, v, wt, cs⟩, 0)) := by
                  show _ = _
                  have h1 : checkD (readD K r).1 = 0 := by rw [← HCK.out]; exact hc0
                  rw [HP.out, checked, if_pos HER.out, if_pos h1, HOK.out, clO_taken cl8 h1, ← HER.out]
                rw [hc0]
                clear hc0
                have p0 : w5.cell? ⟨w.heap.size, 0, none⟩ = some (.int .i64 0) := A6.cell 0 (by simp)
                have pf0 := A6.frozen 0
                have p1 : w5.cell? ⟨w.heap.size, 1, none⟩ = some (.int .i64 0) := A6.cell 1 (by simp)
                have pf1 := A6.frozen 1
                have p2 : w5.cell? ⟨w.heap.size, 2, none⟩ = some (.int .i64 0) := A6.cell 2 (by simp)
                have pf2 := A6.frozen 2
                have p3 : w5.cell? ⟨w.heap.size, 3, none⟩ = some (.int .i64 0) := A6.cell 3 (by simp)
                have pf3 := A6.frozen 3
                have p4 : w5.cell? ⟨w.heap.size, 4, none⟩ = some (.slice none 0 0) := A6.cell 4 (by simp)
                have pf4 := A6.frozen 4
                have pl := A6.lt.2
                have x0 : w5.cell? ⟨w4.heap.size, 0, none⟩ = some (.int .i64 K) := X5.cell 0 (by simp)
                have x1 : w5.cell? ⟨w4.heap.size, 1, none⟩ = some (.int .i64 n) := X5.cell 1 (by simp)
                have x2 : w5.cell? ⟨w4.heap.size, 2, none⟩ = some (.int .i64 v) := X5.cell 2 (by simp)
                have x3 : w5.cell? ⟨w4.heap.size, 3, none⟩ = some (.int .i64 wt) := X5.cell 3 (by simp)
                have x4 : w5.cell? ⟨w4.heap.size, 4, none⟩ = some (.slice ay cs.length cc) := X5.cell 4 (by simp)
                have xl := X5.lt.2
                have hw4 := K4.size
                have hw3 := K3.size
                have hw2 := A2.lt.2
                have HW : Hid (w.heap.size < w3.heap.size) := by show _ < _; omega
                go_wp2_with fail
                (try simp only [Exit.inBlock, Exit.then])
                have tf := turn_set5 w5 w.heap.size (.int .i64 K) (.int .i64 n) (.int .i64 v) (.int .i64 wt) (.slice ay cs.length cc)
                refine bodyPost_ret (v := .tuple #[.agg #[.int .i64 K, .int .i64 n, .int .i64 v, .int .i64 wt, .slice ay cs.length cc], .int .i64 0]) ?_ rfl ⟨.slice ay cs.length cc, by rw [HP2.out], ?_, tf.kept K6 (fun i hi => by omega)⟩
                · rw [results_cell_tmp rfl]
                  go_simp
                · rw [HP2.out]
                  exact (crow_base ((HC.out.kept ((Kept.refl _).alloc _)).kept t5) hw3).turns tf (fun q hq e => by have := (World.ownsRow.lt HC.out q hq).1; have := HW.out; omega)
              · have hc1 : (checkD ⟨K, n, v, wt, cs⟩ != 0) = true := by simp [hc0]
                have HP2 : Hid (parseD s = (zeroD, checkD ⟨K, n, v, wt, cs⟩)) := by
                  show _ = _
                  rw [HP.out, checked, if_pos HER.out, if_neg (by rw [← HCK.out]; exact hc0), HCK.out]
                clear hc0
                generalize checkD ⟨K, n, v, wt, cs⟩ = ck at *
                have p0 : w5.cell? ⟨w.heap.size, 0, none⟩ = some (.int .i64 0) := A6.cell 0 (by simp)
                have pf0 := A6.frozen 0
                have p1 : w5.cell? ⟨w.heap.size, 1, none⟩ = some (.int .i64 0) := A6.cell 1 (by simp)
                have pf1 := A6.frozen 1
                have p2 : w5.cell? ⟨w.heap.size, 2, none⟩ = some (.int .i64 0) := A6.cell 2 (by simp)
                have pf2 := A6.frozen 2
                have p3 : w5.cell? ⟨w.heap.size, 3, none⟩ = some (.int .i64 0) := A6.cell 3 (by simp)
                have pf3 := A6.frozen 3
                have p4 : w5.cell? ⟨w.heap.size, 4, none⟩ = some (.slice none 0 0) := A6.cell 4 (by simp)
                have pf4 := A6.frozen 4
                have pl := A6.lt.2
                go_wp2_with fail
                (try simp only [Exit.inBlock, Exit.then])
                refine bodyPost_ret (v := .tuple #[.agg #[.int .i64 0, .int .i64 0, .int .i64 0, .int .i64 0, .slice none 0 0], .int .i64 ck]) ?_ rfl ⟨.slice none 0 0, by rw [HP2.out]; rfl, by rw [HP2.out]; exact CRow.nil _ _ _, (turn_set5 w5 w.heap.size (.int .i64 0) (.int .i64 0) (.int .i64 0) (.int .i64 0) (.slice none 0 0)).kept K6 (fun i hi => by omega)⟩
                rw [results_cell_tmp rfl]
                go_simp
            · have he1 : (er == 0) = false := by simp [he]
              have he2 : (er != 0) = true := by simp [he]
              have HP2 : Hid (parseD s = (zeroD, er)) := by
                show _ = _
                rw [HP.out, checked, if_neg (by rw [← RA.err]; exact he), ← RA.err]
              clear he
              have p0 : (w4.alloc (.cells #[.int .i64 K, .int .i64 n, .int .i64 v, .int .i64 wt, .slice ay cs.length cc] 37)).cell? ⟨w.heap.size, 0, none⟩ = some (.int .i64 0) := A5.cell 0 (by simp)
              have pf0 := A5.frozen 0
              have p1 : (w4.alloc (.cells #[.int .i64 K, .int .i64 n, .int .i64 v, .int .i64 wt, .slice ay cs.length cc] 37)).cell? ⟨w.heap.size, 1, none⟩ = some (.int .i64 0) := A5.cell 1 (by simp)
              have pf1 := A5.frozen 1
              have p2 : (w4.alloc (.cells #[.int .i64 K, .int .i64 n, .int .i64 v, .int .i64 wt, .slice ay cs.length cc] 37)).cell? ⟨w.heap.size, 2, none⟩ = some (.int .i64 0) := A5.cell 2 (by simp)
              have pf2 := A5.frozen 2
              have p3 : (w4.alloc (.cells #[.int .i64 K, .int .i64 n, .int .i64 v, .int .i64 wt, .slice ay cs.length cc] 37)).cell? ⟨w.heap.size, 3, none⟩ = some (.int .i64 0) := A5.cell 3 (by simp)
              have pf3 := A5.frozen 3
              have p4 : (w4.alloc (.cells #[.int .i64 K, .int .i64 n, .int .i64 v, .int .i64 wt, .slice ay cs.length cc] 37)).cell? ⟨w.heap.size, 4, none⟩ = some (.slice none 0 0) := A5.cell 4 (by simp)
              have pf4 := A5.frozen 4
              have pl := A5.lt.2
              go_wp2_with fail
              (try simp only [Exit.inBlock, Exit.then])
              refine bodyPost_ret (v := .tuple #[.agg #[.int .i64 0, .int .i64 0, .int .i64 0, .int .i64 0, .slice none 0 0], .int .i64 er]) ?_ rfl ⟨.slice none 0 0, by rw [HP2.out]; rfl, by rw [HP2.out]; exact CRow.nil _ _ _, (turn_set5 (w4.alloc (.cells #[.int .i64 K, .int .i64 n, .int .i64 v, .int .i64 wt, .slice ay cs.length cc] 37)) w.heap.size (.int .i64 0) (.int .i64 0) (.int .i64 0) (.int .i64 0) (.slice none 0 0)).kept K5 (fun i hi => by omega)⟩
              rw [results_cell_tmp rfl]
              go_simp
end Go.Proofs.YtolljdomnohmdabGreatDoor
