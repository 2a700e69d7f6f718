/- WordEnds, walked. -/
import Derived.Test.YtfmoijmfndmgaaaDoorAnyW
import Derived.Deep.LoopGhost
namespace Go.Proofs.YtfmoijmfndmgaaaDoor
open Go.RowKit

/-- Words with blanks between; lines, each with its end. -/
def joinW : List (List UInt8) → List UInt8
  | [] => []
  | [w] => w
  | w :: x :: r => w ++ 32 :: joinW (x :: r)
def joinL : List (List UInt8) → List UInt8
  | [] => []
  | x :: r => x ++ 10 :: joinL r
theorem joinW_cons (w : List UInt8) (r : List (List UInt8)) (h : r ≠ []) : joinW (w :: r) = w ++ 32 :: joinW r := by
  cases r with
  | nil => exact absurd rfl h
  | cons x r => rfl
theorem joinW_snoc : ∀ (ws : List (List UInt8)) (w : List UInt8), ws ≠ [] → joinW (ws ++ [w]) = joinW ws ++ 32 :: w
  | [], _, h => absurd rfl h
  | [x], w, _ => rfl
  | x :: y :: r, w, _ => by
    have ih := joinW_snoc (y :: r) w (by simp)
    rw [List.cons_append, joinW_cons x _ (by simp), ih, joinW_cons x (y :: r) (by simp)]
    simp
theorem joinL_snoc : ∀ (ls : List (List UInt8)) (x : List UInt8), joinL (ls ++ [x]) = joinL ls ++ (x ++ [10])
  | [], x => rfl
  | y :: r, x => by
    have ih := joinL_snoc r x
    rw [List.cons_append, joinL, ih, joinL]
    simp
theorem splitGo_ne : ∀ (l cur : List UInt8) (ws : List (List UInt8)), splitGo cur l = some ws → ws ≠ []
  | [], cur, ws, h => by
    rw [splitGo] at h
    split at h
    · cases h
    · cases h; simp
  | c :: r, cur, ws, h => by
    rw [splitGo] at h
    split at h
    · split at h
      · cases h
      · obtain ⟨y, _, rfl⟩ := Option.map_eq_some_iff.1 h
        simp
    · split at h
      · cases h
      · exact splitGo_ne r _ ws h
theorem splitGo_join : ∀ (l cur : List UInt8) (ws : List (List UInt8)), splitGo cur l = some ws → joinW ws = cur ++ l
  | [], cur, ws, h => by
    rw [splitGo] at h
    split at h
    · cases h
    · cases h; simp [joinW]
  | c :: r, cur, ws, h => by
    rw [splitGo] at h
    split at h
    · rename_i hc
      split at h
      · cases h
      · obtain ⟨y, hy, rfl⟩ := Option.map_eq_some_iff.1 h
        rw [joinW_cons _ _ (splitGo_ne r [] y hy), splitGo_join r [] y hy, hc]
        simp
    · split at h
      · cases h
      · rw [splitGo_join r _ ws h]
        simp
theorem splitOf_join (l : List UInt8) (ws : List (List UInt8)) (h : splitOf l = some ws) : joinW ws = l := by
  unfold splitOf at h
  split at h
  · rename_i hl
    cases h
    rw [hl]; rfl
  · simpa using splitGo_join l [] ws h
theorem linesGo_join : ∀ (l cur : List UInt8), (l ≠ [] → l.getLast? = some 10) → (l = [] → cur = []) → joinL (linesGo cur l) = cur ++ l
  | [], cur, _, h => by rw [h rfl]; rfl
  | c :: r, cur, h, _ => by
    have hl := h (by simp)
    have hr : r ≠ [] → r.getLast? = some 10 := by
      intro hn
      rw [List.getLast?_cons] at hl
      rcases hg : r.getLast? with _ | x
      · exact absurd (List.getLast?_eq_none_iff.1 hg) hn
      · rw [hg] at hl; simpa using hl
    rw [linesGo]
    split
    · rename_i hc
      rw [joinL, linesGo_join r [] hr (fun _ => rfl), hc]
      rfl
    · rename_i hc
      rw [linesGo_join r (cur ++ [c]) hr ?_]
      · simp
      · intro hn
        subst hn
        simp at hl
        exact absurd hl hc
theorem linesOf_join (l : List UInt8) (h : linesOk l = true) : joinL (linesOf l) = l := by
  unfold linesOf
  rw [linesGo_join l [] ?_ (fun _ => rfl)]
  · rfl
  · intro hn
    unfold linesOk at h
    rw [Bool.or_eq_true] at h
    rcases h with h | h
    · exact absurd (by simpa using h) hn
    · simpa using h
theorem joinL_len : ∀ (ls : List (List UInt8)) (k : Nat), (joinL (ls.take k)).length ≤ (joinL ls).length
  | [], k => by simp [joinL]
  | x :: r, 0 => by simp [joinL]
  | x :: r, k + 1 => by
    have := joinL_len r k
    rw [List.take_succ_cons, joinL, joinL]
    simp; omega
theorem joinL_mem : ∀ (ls : List (List UInt8)) (x : List UInt8), x ∈ ls → x.length ≤ (joinL ls).length
  | [], x, h => by simp at h
  | y :: r, x, h => by
    rw [joinL]
    rcases List.mem_cons.1 h with h | h
    · subst h; simp
    · have := joinL_mem r x h
      simp; omega
theorem joinW_len : ∀ (ls : List (List UInt8)) (k : Nat), (joinW (ls.take k)).length ≤ (joinW ls).length
  | [], k => by simp [joinW]
  | x :: r, 0 => by simp [joinW]
  | [x], k + 1 => by simp [joinW]
  | x :: y :: r, k + 1 => by
    have ih := joinW_len (y :: r) k
    rw [List.take_succ_cons, joinW_cons x (y :: r) (by simp)]
    by_cases hk : (y :: r).take k = []
    · rw [hk]; simp [joinW]
    · rw [joinW_cons x _ hk]
      simp; omega
theorem joinW_mem : ∀ (ls : List (List UInt8)) (x : List UInt8), x ∈ ls → x.length ≤ (joinW ls).length
  | [], x, h => by simp at h
  | [y], x, h => by simp at h; subst h; simp [joinW]
  | y :: z :: r, x, h => by
    rw [joinW_cons y (z :: r) (by simp)]
    rcases List.mem_cons.1 h with h | h
    · subst h; simp
    · have := joinW_mem (z :: r) x h
      simp; omega
theorem At.get {w : World} {a : Option Addr} {n : Nat} {l : List (List UInt8)} (h : At w a n l) (j : Nat) (hj : j < n) : ∃ x b f, a = some ⟨b, f, Option.none⟩ ∧ w.cell? ⟨b, f + j, Option.none⟩ = some (.string (B x)) ∧ l[j]? = some x ∧ l.take (j + 1) = l.take j ++ [x] ∧ x ∈ l := by
  obtain ⟨b, f, e, hc⟩ := h.2 j hj
  have hl : j < l.length := by rw [h.1]; exact hj
  refine ⟨l[j], b, f, e, ?_, by simp [hl], ?_, List.getElem_mem hl⟩
  · rw [hc]; simp [List.getD_eq_getElem?_getD, hl]
  · rw [List.take_add_one]; simp [hl]
theorem take_ne {ws : List (List UInt8)} {m : Nat} (h0 : 0 < m) (h1 : m < ws.length) : ws.take m ≠ [] := by
  intro e
  have h9 := congrArg List.length e
  rw [List.length_take] at h9
  simp only [List.length_nil] at h9
  omega
/-- Texts put together, of no great length. -/
theorem add_run (a b : List UInt8) (ha : a.length ≤ 1000000) (hb : b.length ≤ 1000000) : ∀ wx, (Op.stringOp .add (B a) (B b)).run Tryd.prog wx = .ok (.string (B (a ++ b))) wx := by
  intro wx
  rw [run_string_add_sum _ _ _ (by rw [B_size, B_size]; omega), B_add]

set_option maxHeartbeats 400000 in
theorem ends_skip (s : ByteArray) (h : ¬ s.size ≤ 300) (w : World) (hr : Rdy w) :
    Calls Tryd.prog 6 #[.string s] w fun e w' => e = .returned (.bool true) ∧ Kept w w' := by
  have t1 : decide (300 < (s.size : Int)) = true := decide_eq_true (by omega)
  go_enter Tryd.func6, Tryd.ntmps6
  go_wp2_with fail
  refine (known_true w hr).mono ?_
  rintro e w1 ⟨rfl, T1⟩
  go_wp2_with fail
  go_ret
  exact ⟨rfl, T1⟩

set_option maxHeartbeats 1000000 in
theorem ends_bad (l : List UInt8) (hl : l.length ≤ 300) (hok : linesOk l = false) (w : World) (hr : Rdy w) :
    Calls Tryd.prog 6 #[.string (B l)] w fun e w' => e = .returned (.bool true) ∧ Kept w w' := by
  have hli := lines_any l (by omega)
  have hE : linesE l = 2 ∧ linesR l = [] := by simp [linesE, linesR, hok]
  rw [hE.1, hE.2] at hli
  have hem : l.isEmpty = false := by simp [linesOk] at hok; simpa using hok.1
  have h1 : (B l).toList.isEmpty = false := by rw [B_empty]; exact hem
  have hne : l ≠ [] := by intro e; rw [e] at hem; cases hem
  obtain ⟨c, hc1, hc2⟩ := last_byte l hne
  have hsf : ¬ c = 10 := by simp [linesOk] at hok; rw [hc1] at hok; simpa using hok.2
  have hpos : 0 < l.length := List.length_pos_iff.2 hne
  have hsz := B_size l
  have hw1 : (l.length : Int) - 1 = ((l.length - 1 : Nat) : Int) := by omega
  have hlt : ((l.length - 1 : Nat) : Int) < (l.length : Int) := by omega
  have hge : (0 : Int) ≤ ((l.length - 1 : Nat) : Int) := by omega
  have hcn : ((c.toNat : Int) != 10) = true := by rw [bne_iff_ne]; exact fun e => hsf (UInt8.toNat_inj.1 (by rw [show (10 : UInt8).toNat = 10 from rfl]; omega))
  have t1 : decide (300 < (l.length : Int)) = false := decide_eq_false (by omega)
  clear hok hem hne hc1 hsf hE
  go_enter Tryd.func6, Tryd.ntmps6
  go_wp2_with fail
  refine (known_true w hr).mono ?_
  rintro e w1 ⟨rfl, T1⟩
  go_wp2_with fail
  refine (hli w1 (hr.kept T1)).mono ?_
  rintro e w2 ⟨v2, rfl, r2, k2⟩
  have T2 := T1.trans k2
  obtain ⟨a2, c2, rfl, p2⟩ := r2.at
  go_wp2_with fail
  go_ret
  exact ⟨rfl, T2⟩

set_option maxHeartbeats 2000000 in
theorem ends_ok (l : List UInt8) (hl : l.length ≤ 300) (hok : linesOk l = true) (w : World) (hr : Rdy w) :
    Calls Tryd.prog 6 #[.string (B l)] w fun e w' => e = .returned (.bool true) ∧ Kept w w' := by
  have hli := lines_any l (by omega)
  have hE : linesE l = 0 ∧ linesR l = linesOf l := by simp [linesE, linesR, hok]
  have HJ : Hid (joinL (linesOf l) = l) := linesOf_join l hok
  rw [hE.1, hE.2] at hli
  have hsz := B_size l
  have t1 : decide (300 < (l.length : Int)) = false := decide_eq_false (by omega)
  have hrl : (linesOf l).length ≤ 300 := by have := linesR_len l; rw [hE.2] at this; omega
  generalize linesOf l = rows at *
  clear hok hE
  go_enter Tryd.func6, Tryd.ntmps6
  go_wp2_with fail
  refine (known_true w hr).mono ?_
  rintro e w1 ⟨rfl, T1⟩
  go_wp2_with fail
  refine (hli w1 (hr.kept T1)).mono ?_
  rintro e w2 ⟨v2, rfl, r2, k2⟩
  have T2 := T1.trans k2
  obtain ⟨a2, c2, rfl, p2⟩ := r2.at
  have HP : Hid (At w2 a2 rows.length rows) := p2
  clear r2 k2 T1 hli p2
  go_wp2_with fail
  go_loopg [5, 6] rows.length (fun gk o i wr => ∃ k : Nat, o = .string (B (joinL (rows.take k))) ∧ i = .int .i64 k ∧ k + gk = rows.length ∧ Kept w2 wr)
  case atStart => exact ⟨0, rfl, rfl, by omega, Kept.refl _⟩
  case round =>
    obtain ⟨k, rfl, rfl, hk, T⟩ := hrel
    by_cases hkl : k < rows.length
    · obtain ⟨x, b, f, rfl, hcell, _, e3, e4⟩ := HP.out.get k hkl
      have gx := T.cell hcell
      have HX : Hid (x.length ≤ l.length) := by show _ ≤ _; rw [← HJ.out]; exact joinL_mem rows x e4
      have HT : Hid (joinL (rows.take (k + 1)) = joinL (rows.take k) ++ (x ++ [10])) := by show _ = _; rw [e3, joinL_snoc]
      have hxl : x.length ≤ 300 := by have := HX.out; omega
      have hjl : (joinL (rows.take k)).length ≤ 300 := by have := joinL_len rows k; rw [HJ.out] at this; omega
      have b1 : (k : Int) < (rows.length : Int) := by omega
      have b2 : (0 : Int) ≤ (k : Int) := by omega
      have ad1 := add_run (joinL (rows.take k)) x (by omega) (by omega)
      have ad2 := add_run (joinL (rows.take k) ++ x) [10] (by simp; omega) (by simp)
      rw [show B [10] = ⟨#[10]⟩ from rfl] at ad2
      have hsp := split_any x (by omega) wr (hr.kept (T2.trans T))
      have q2 := splitR_len x
      clear e3 e4
      cases hso : splitOf x with
      | none =>
        rw [hso, show splitE none = 2 from rfl] at hsp
        go_wp2_with fail
        refine hsp.mono ?_
        rintro e w3 ⟨v3, rfl, r3, k3⟩
        go_wp2_with fail
        obtain ⟨gk', rfl⟩ : ∃ g, gk = g + 1 := ⟨gk - 1, by omega⟩
        go_roundg gk'
        case rel => exact ⟨k + 1, by rw [HT.out], by go_num, by omega, T.trans k3⟩
        case measure => omega
      | some ws =>
        rw [hso, show splitE (some ws) = 0 from rfl, show splitR (some ws) = ws from rfl] at hsp
        rw [hso, show splitR (some ws) = ws from rfl] at q2
        have HW : Hid (joinW ws = x) := splitOf_join x ws hso
        clear hso
        go_wp2_with fail
        refine hsp.mono ?_
        rintro e w3 ⟨v3, rfl, r3, k3⟩
        have T3 := T.trans k3
        obtain ⟨a3, c3, rfl, p3⟩ := r3.at
        have HP3 : Hid (At w3 a3 ws.length ws) := p3
        clear r3 k3 hsp p3
        obtain ⟨g1, rfl⟩ : ∃ g, gk = g + 1 := ⟨gk - 1, by omega⟩
        go_wp2_with fail
        go_loopg [9, 10] ws.length (fun g2 t i wi => ∃ m : Nat, t = .string (B (joinW (ws.take m))) ∧ i = .int .i64 m ∧ m + g2 = ws.length ∧ Kept w3 wi)
        case atStart => exact ⟨0, rfl, rfl, by omega, Kept.refl _⟩
        case round =>
          obtain ⟨m, rfl, rfl, hm, Ti⟩ := hrel
          by_cases hml : m < ws.length
          · obtain ⟨y, b3, f3, rfl, hcell3, _, e3, e4⟩ := HP3.out.get m hml
            have gy := Ti.cell hcell3
            have hyl : y.length ≤ 300 := by have := joinW_mem ws y e4; rw [HW.out] at this; omega
            have hwl : (joinW (ws.take m)).length ≤ 300 := by have := joinW_len ws m; rw [HW.out] at this; omega
            have c1 : (m : Int) < (ws.length : Int) := by omega
            have c2 : (0 : Int) ≤ (m : Int) := by omega
            by_cases hm0 : 0 < m
            · have t4 : decide (0 < (m : Int)) = true := decide_eq_true (by omega)
              have HT2 : Hid (joinW (ws.take (m + 1)) = joinW (ws.take m) ++ ([32] ++ y)) := by
                show _ = _
                rw [e3, joinW_snoc _ _ (take_ne hm0 hml)]
                rfl
              have ad3 := add_run (joinW (ws.take m)) [32] (by omega) (by simp)
              rw [show B [32] = ⟨#[32]⟩ from rfl] at ad3
              have ad4 := add_run (joinW (ws.take m) ++ [32]) y (by simp; omega) (by omega)
              clear e3 e4
              go_wp2_with fail
              obtain ⟨g3, rfl⟩ : ∃ g, gk = g + 1 := ⟨gk - 1, by omega⟩
              go_roundg g3
              case rel => exact ⟨m + 1, by rw [HT2.out]; simp, by go_num, by omega, Ti⟩
              case measure => omega
            · have t4 : decide (0 < (m : Int)) = false := decide_eq_false (by omega)
              have hm00 : m = 0 := by omega
              have HT2 : Hid (joinW (ws.take (m + 1)) = joinW (ws.take m) ++ y) := by
                show _ = _
                rw [e3, hm00]; rfl
              have ad4 := add_run (joinW (ws.take m)) y (by omega) (by omega)
              clear e3 e4 hm00
              go_wp2_with fail
              obtain ⟨g3, rfl⟩ : ∃ g, gk = g + 1 := ⟨gk - 1, by omega⟩
              go_roundg g3
              case rel => exact ⟨m + 1, by rw [HT2.out], by go_num, by omega, Ti⟩
              case measure => omega
          · have c1 : ¬ (m : Int) < (ws.length : Int) := by omega
            have hmm : m = ws.length := by omega
            have gx3 := (T3.trans Ti).cell hcell
            have t5 : ((B (joinW (ws.take m))).toList == (B x).toList) = true := by rw [B_eq, hmm, List.take_length, HW.out]; simp
            have T4 := T3.trans Ti
            clear hmm gx
            go_wp2_with fail
            go_roundg g1
            case rel => exact ⟨k + 1, by rw [HT.out], by go_num, by omega, T4⟩
            case measure => omega
    · have b1 : ¬ (k : Int) < (rows.length : Int) := by omega
      have hkk : k = rows.length := by omega
      have t2 : ((B (joinL (rows.take k))).toList == (B l).toList) = true := by rw [B_eq, hkk, List.take_length, HJ.out]; simp
      clear hkk
      go_wp2_with fail
      go_ret
      exact ⟨rfl, T2.trans T⟩

theorem ends_any (s : ByteArray) (w : World) (hr : Rdy w) :
    Calls Tryd.prog 6 #[.string s] w fun e w' => e = .returned (.bool true) ∧ Kept w w' := by
  by_cases h : s.size ≤ 300
  · have hl : s.data.toList.length ≤ 300 := by rw [← Lib.size_eq]; exact h
    cases hok : linesOk s.data.toList with
    | true =>
      have := ends_ok s.data.toList hl hok w hr
      rw [B_of] at this
      exact this
    | false =>
      have := ends_bad s.data.toList hl hok w hr
      rw [B_of] at this
      exact this
  · exact ends_skip s h w hr
end Go.Proofs.YtfmoijmfndmgaaaDoor
