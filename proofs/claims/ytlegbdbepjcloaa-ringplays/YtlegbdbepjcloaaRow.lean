/- Row of the law's package: are two rows of numbers alike; by its contract. -/
import Derived.Test.YtlegbdbepjcloaaAll
import Derived.OpenShut
namespace Go.Proofs.Ytlegbdbepjcloaa
open Go.RowKit Go.Conc

/-- What a slice of n numbers shows. -/
def At (w : World) (a : Option Addr) (n : Nat) (l : List Int) : Prop := l.length = n ∧ ∀ j, j < n → ∃ b f, a = some ⟨b, f, none⟩ ∧ w.cell? ⟨b, f + j, none⟩ = some (.int .i64 (l.getD j 0))

theorem At.turns {w w' : World} {a : Option Addr} {n : Nat} {l : List Int} (h : At w a n l) (t : Turns (fun _ => False) w w') : At w' a n l := by
  refine ⟨h.1, fun j hj => ?_⟩
  obtain ⟨b, f, e, hc⟩ := h.2 j hj
  exact ⟨b, f, e, t.cell hc (cell_lt hc) (fun x => x)⟩
theorem IntRow.at {B : Nat} {w : World} {v : Value} {l : List Int} (h : IntRow B w v l) : ∃ a c, v = .slice a l.length c ∧ At w a l.length l := by
  obtain ⟨a, c, e, f⟩ := h.sl
  refine ⟨a, c, e, rfl, fun j hj => ?_⟩
  obtain ⟨g, e2, h2⟩ := f j hj
  exact ⟨g, 0, e2, by rw [Nat.zero_add]; exact h2 j hj⟩

set_option maxHeartbeats 400000 in
theorem row_len {na nb : Nat} (a b : Option Addr) (ca cb : Nat) (w : World) (h : na ≠ nb) :
    Calls Try.prog 17 #[.slice a na ca, .slice b nb cb] w fun e w' => e = .returned (.bool false) ∧ w' = w := by
  have t : ((na : Int) != (nb : Int)) = true := by rw [bne_iff_ne]; omega
  go_enter Try.func17, Try.ntmps17
  go_wp2
  go_ret
  exact ⟨rfl, rfl⟩

set_option maxHeartbeats 1000000 in
theorem row_same (a b : Option Addr) (n ca cb : Nat) (la lb : List Int) (w : World) (hn : n ≤ 9223372036854775807) (ha : At w a n la) (hb : At w b n lb) :
    Calls Try.prog 17 #[.slice a n ca, .slice b n cb] w fun e w' => e = .returned (.bool (decide (la = lb))) ∧ ∃ q, w' = w.drewN q := by
  have HA : Hid (At w a n la) := ha
  have HB : Hid (At w b n lb) := hb
  clear ha hb
  have t : ((n : Int) != (n : Int)) = false := by simp
  go_enter Try.func17, Try.ntmps17
  go_wp2
  go_loopw [5] (fun i wr => ∃ (k q : Nat), i = .int .i64 k ∧ k ≤ n ∧ Hid (∀ j, j < k → la.getD j 0 = lb.getD j 0) ∧ wr = w.drewN q) (fun i _ => n - (intOf i).toNat)
  case atStart => exact ⟨0, 0, rfl, by omega, fun j hj => by omega, rfl⟩
  case round =>
    obtain ⟨k, q, rfl, hk, HE, rfl⟩ := hrel
    by_cases hkn : k < n
    · obtain ⟨x, hx⟩ : ∃ x, la.getD k 0 = x := ⟨_, rfl⟩
      obtain ⟨y, hy⟩ : ∃ y, lb.getD k 0 = y := ⟨_, rfl⟩
      obtain ⟨ga, fa, rfl, gx⟩ := HA.out.2 k hkn
      obtain ⟨gb, fb, rfl, gy⟩ := HB.out.2 k hkn
      rw [hx] at gx
      rw [hy] at gy
      have HXX : Hid (la.getD k 0 = x) := hx
      have HYY : Hid (lb.getD k 0 = y) := hy
      clear hx hy
      have b1 : (k : Int) < (n : Int) := by omega
      have b2 : (0 : Int) ≤ (k : Int) := by omega
      by_cases hxy : x = y
      · have t2 : (x != y) = false := by simp [hxy]
        have HXY : Hid (x = y) := hxy
        clear hxy
        go_wp2_with fail
        go_quiet (fail)
        go_wp2_with fail
        go_roundw
        case rel =>
          refine ⟨k + 1, _, by go_num, by omega, ?_, rfl⟩
          intro j hj
          by_cases hjk : j = k
          · rw [hjk, HXX.out, HYY.out, HXY.out]
          · exact HE.out j (by omega)
        case measure => simp [intOf]; omega
      · have t2 : (x != y) = true := by rw [bne_iff_ne]; exact hxy
        have HXY : Hid (¬ x = y) := hxy
        clear hxy
        go_wp2_with fail
        go_quiet (fail)
        go_wp2_with fail
        go_ret
        refine ⟨?_, _, drewN_add _ _ _⟩
        have : decide (la = lb) = false := by
          apply decide_eq_false
          intro h
          apply HXY.out
          rw [← HXX.out, ← HYY.out, h]
        rw [this]
        rfl
    · have hkk : k = n := by omega
      have HKK : Hid (k = n) := hkk
      have b1 : ¬ (k : Int) < (n : Int) := by omega
      clear hkk hkn
      go_wp2
      go_ret
      refine ⟨?_, _, rfl⟩
      have : decide (la = lb) = true := by
        apply decide_eq_true
        apply List.ext_getElem
        · rw [HA.out.1, HB.out.1]
        · intro j h1 h2
          have := HE.out j (by rw [HKK.out, ← HA.out.1]; exact h1)
          simpa [List.getD_eq_getElem?_getD, h1, h2] using this
      rw [this]
      rfl

theorem row_any {a b : Option Addr} {na nb ca cb : Nat} {la lb : List Int} {w : World} (ha : At w a na la) (hb : At w b nb lb) (hn : na ≤ 1000000) :
    Calls Try.prog 17 #[.slice a na ca, .slice b nb cb] w fun e w' => e = .returned (.bool (decide (la = lb))) ∧ Turns (fun _ => False) w w' := by
  by_cases hl : na = nb
  · subst hl
    refine (row_same a b na ca cb la lb w (by omega) ha hb).mono ?_
    rintro e w' ⟨rfl, q, rfl⟩
    exact ⟨rfl, (Turns.refl _ _).drewN q⟩
  · refine (row_len a b ca cb w hl).mono ?_
    rintro e w' ⟨rfl, rfl⟩
    have : decide (la = lb) = false := decide_eq_false (fun h => hl (by rw [← ha.1, ← hb.1, h]))
    exact ⟨by rw [this], Turns.refl _ _⟩
/-- Alike rows. -/
theorem row_yes {a b : Option Addr} {na nb ca cb : Nat} {l : List Int} {w : World} (ha : At w a na l) (hb : At w b nb l) (hn : na ≤ 1000000) :
    Calls Try.prog 17 #[.slice a na ca, .slice b nb cb] w fun e w' => e = .returned (.bool true) ∧ Turns (fun _ => False) w w' := by
  refine (row_any ha hb hn).mono ?_
  rintro e w' ⟨rfl, t⟩
  exact ⟨by simp, t⟩

theorem At.take {w : World} {a : Option Addr} {n : Nat} {l : List Int} (h : At w a n l) (k : Nat) (hk : k ≤ n) : At w a k (l.take k) := by
  refine ⟨by rw [List.length_take, h.1]; omega, fun j hj => ?_⟩
  obtain ⟨b, f, e, hc⟩ := h.2 j (by omega)
  refine ⟨b, f, e, ?_⟩
  rw [hc]
  simp [List.getD_eq_getElem?_getD, hj]
theorem At.get {w : World} {a : Option Addr} {n : Nat} {l : List Int} (h : At w a n l) (j : Nat) (hj : j < n) : ∃ x b f, a = some ⟨b, f, none⟩ ∧ w.cell? ⟨b, f + j, none⟩ = some (.int .i64 x) ∧ l[j]? = some x ∧ l.take (j + 1) = l.take j ++ [x] ∧ l.drop j = x :: l.drop (j + 1) := by
  obtain ⟨b, f, e, hc⟩ := h.2 j hj
  have hl : j < l.length := by rw [h.1]; exact hj
  refine ⟨l[j], b, f, e, ?_, by simp [hl], ?_, ?_⟩
  · rw [hc]; simp [List.getD_eq_getElem?_getD, hl]
  · rw [List.take_add_one]; simp [hl]
  · exact List.drop_eq_getElem_cons hl

/-- A slice of numbers that came in. -/
theorem came_at {w : World} {a : Option Addr} {len cap : Nat} {zs : List Int}
    (h : (a = none ∧ len = 0 ∧ cap = 0 ∧ zs = []) ∨ ∃ x, a = some x ∧ len ≤ cap ∧ cap ≤ maxLen ∧ zs.length = cap ∧ (∀ i, i < zs.length → w.cell? (x.add i) = some (.int .i64 (zs.getD i 0))) ∧ ∀ n ∈ zs, (Lit.int .i64 n).wf = true) :
    At w a len (zs.take len) ∧ len ≤ cap ∧ (a = none → cap = 0) := by
  rcases h with ⟨rfl, rfl, rfl, rfl⟩ | ⟨x, rfl, p1, p2, p3, p4, p5⟩
  · exact ⟨⟨rfl, fun j hj => by omega⟩, by omega, fun _ => rfl⟩
  · refine ⟨⟨by rw [List.length_take]; omega, fun j hj => ?_⟩, p1, fun e => by cases e⟩
    obtain ⟨b0, f0, rfl, hc0⟩ := Go.ints_at p4 (by omega)
    refine ⟨b0, f0, rfl, ?_⟩
    rw [hc0 j (by omega)]
    simp [List.getD_eq_getElem?_getD, hj]
end Go.Proofs.Ytlegbdbepjcloaa
