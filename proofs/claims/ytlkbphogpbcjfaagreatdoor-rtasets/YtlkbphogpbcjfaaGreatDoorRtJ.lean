/- Higher, the reference's. -/
import Derived.Test.YtlkbphogpbcjfaaGreatDoorRPr
namespace Go.Proofs.YtlkbphogpbcjfaaGreatDoor
open Go.RowKit Go.Sort

set_option maxRecDepth 10000 in
theorem rothers_any (L : Int) (ca : Option Addr) (nc cc : Nat) (a : Option Addr) (n c : Nat) (D : Nat → Int) (x : Nat) (g : Bool) (hx : x < n) (w : World) (hD : AtD w a n D) (hn : n ≤ 1000) :
    Calls Tryz.prog 37 #[.agg #[.int .i64 L, .slice ca nc cc, .slice a n c], .int .i64 x, .bool g] w fun e w' => ∃ va m vc, e = .returned (.slice va m vc) ∧ m = (sideD D x g n).length ∧ AtI w' va (sideD D x g n) ∧ Kept w w' := by
  obtain ⟨R, hR⟩ := row_ex n D (by omega)
  have HR : Hid (RowOk n D R) := hR
  have KA := (Kept.refl w).alloc (.cells #[.int .i64 L, .slice ca nc cc, .slice a n c] 25)
  have hp := rprios_any L ca nc cc a n c D _ (hD.kept KA) hn
  have b1 : ¬ (x : Int) < 0 := by omega
  have b2 : ¬ (x : Int) ≥ (n : Int) := by omega
  have b2n : ¬ n ≤ x := by omega
  have b3 : (x : Int) < (n : Int) := by omega
  have b4 : (0 : Int) ≤ (x : Int) := by omega
  clear hR hD
  go_enter Tryz.func37, Tryz.ntmps37
  go_wp2_with fail
  refine hp.mono ?_
  rintro e w2 ⟨va, vc, rfl, A2, K2⟩
  have HA : Hid (AtI w2 va (prD n D)) := A2
  have KW := KA.trans K2
  clear A2 hp K2 KA
  obtain ⟨px, hpx⟩ : ∃ p, (n : Int) - (rank n D x : Int) = p := ⟨_, rfl⟩
  have HPX : Hid ((n : Int) - (rank n D x : Int) = px) := hpx
  clear hpx
  go_wp2_with fail
  go_loopg [8, 9] n (fun gk x8 i wr => ∃ (m : Nat) (v : Value), v = x8 ∧ i = .int .i64 m ∧ m + gk = n ∧ Hid (IRow 3 w2.heap.size wr v (sideD D x g m)) ∧ Kept w2 wr ∧ Kept w wr)
  case atStart => exact ⟨0, _, rfl, rfl, by omega, IRow.nil _ _ _, Kept.refl w2, KW⟩
  case round =>
    obtain ⟨m, v, hv, rfl, hm, HI, KR, KK⟩ := hrel
    subst hv
    by_cases hmn : m < n
    · have b5 : (m : Int) < (n : Int) := by omega
      have b6 : (0 : Int) ≤ (m : Int) := by omega
      have HNX : Hid (sideD D x g (m + 1) = sideD D x g m ++ (if sideB D x g m = true then [(m : Int)] else [])) := hiD_next (sideB D x g) m
      obtain ⟨gm, rfl⟩ : ∃ g, gk = g + 1 := ⟨gk - 1, by omega⟩
      by_cases hmx : m = x
      · subst hmx
        have e1 : ((m : Int) != (m : Int)) = false := by simp
        have HI2 : Hid (IRow 3 w2.heap.size wr v (sideD D m g (m + 1))) := by show IRow _ _ _ _ _; rw [HNX.out, if_neg (by rw [side_self]; simp), List.append_nil]; exact HI.out
        clear HNX HI
        go_wp2_with fail
        go_big_region
        all_goals go_wp2_with fail
        go_roundg gm
        case rel => exact ⟨m + 1, v, rfl, by go_num, by omega, HI2.out.kept ((Kept.refl _).drew), KR.drew, KK.drew⟩
        case measure => omega
      · have e1 : ((m : Int) != (x : Int)) = true := by simp; omega
        obtain ⟨pm, hpm⟩ : ∃ p, (n : Int) - (rank n D m : Int) = p := ⟨_, rfl⟩
        have HSD : Hid (sideB D x g m = (decide (pm > px) == g)) := by show _ = _; rw [side_iff HR.out hx hmn hmx g, hpm, HPX.out]
        obtain ⟨bb, ff, rfl, c1⟩ := (HA.out.kept KR) m _ (prD_get hmn)
        obtain ⟨b', f', e', c2⟩ := (HA.out.kept KR) x _ (prD_get hx)
        cases e'
        rw [hpm] at c1
        rw [HPX.out] at c2
        obtain ⟨z, hz⟩ : ∃ z, decide (pm > px) = z := ⟨_, rfl⟩
        obtain ⟨y, hy⟩ : ∃ y, (z == g) = y := ⟨_, rfl⟩
        rw [hz, hy] at HSD
        clear hpm
        cases y with
        | true =>
          have HI2 : Hid (sideD D x g (m + 1) = sideD D x g m ++ [(m : Int)]) := by show _ = _; rw [HNX.out, if_pos HSD.out]
          have hln : (sideD D x g m).length ≤ 1000000 := by have := sideD_len D x g m; omega
          clear HNX HSD
          go_wp2_with fail
          go_region_held3 (fun w' => w'.cell? ⟨bb, ff + m, none⟩ = some (.int .i64 pm) ∧ w'.cell? ⟨bb, ff + x, none⟩ = some (.int .i64 px)) (go_keep) (fail)
          have HI0 : Hid (IRow 3 w2.heap.size wr.drew v (sideD D x g m)) := HI.out.kept ((Kept.refl _).drew)
          have KD := KR.drew
          have KKD := KK.drew
          generalize wr.drew = wd at *
          go_wp2_with (at_builtin; refine wpList_append_int nInt _ (by rfl) _ _ rfl w2.heap.size v (sideD D x g m) (m : Int) wd (by rfl) (by rfl) wd.heap.size (by rfl) (by rfl) HI0.out hln KD.size ?_; intro g5 c5 w5 R5 gr5 at5; have T5 : Turns (fun k => v.ownBlock = some k) wd w5 := ((Turns.refl _ wd).alloc _).trans (Turns.grown gr5 (fun k e => e)); have K5 : Kept w2 w5 := T5.kept KD (fun i hi => (World.ownsRow.lt HI0.out i hi).1); rw [← HI2.out] at R5)
          go_roundg gm
          case rel => exact ⟨m + 1, _, rfl, by go_num, by omega, R5, K5, KW.trans K5⟩
          case measure => omega
        | false =>
          have HI2 : Hid (IRow 3 w2.heap.size wr v (sideD D x g (m + 1))) := by show IRow _ _ _ _ _; rw [HNX.out, if_neg (by rw [HSD.out]; simp), List.append_nil]; exact HI.out
          clear HNX HSD HI
          go_wp2_with fail
          go_region_held3 (fun w' => w'.cell? ⟨bb, ff + m, none⟩ = some (.int .i64 pm) ∧ w'.cell? ⟨bb, ff + x, none⟩ = some (.int .i64 px)) (go_keep) (fail)
          go_wp2_with fail
          go_roundg gm
          case rel => exact ⟨m + 1, v, rfl, by go_num, by omega, HI2.out.kept ((Kept.refl _).drew), KR.drew, KK.drew⟩
          case measure => omega
    · have b5 : ¬ (m : Int) < (n : Int) := by omega
      obtain rfl : n = m := by omega
      obtain ⟨ra, rc, hv, A5, _⟩ := rrow_view HI.out
      subst hv
      have HF : Hid (AtI wr ra (sideD D x g n)) := A5
      clear A5
      go_wp2_with fail
      go_ret
      exact ⟨ra, _, ⟨rc, rfl⟩, rfl, HF.out, KK⟩
set_option maxHeartbeats 2000000 in
theorem rhigher_any (L : Int) (ca : Option Addr) (nc cc : Nat) (a : Option Addr) (n c : Nat) (D : Nat → Int) (x : Nat) (hx : x < n) (w : World) (hD : AtD w a n D) (hn : n ≤ 1000) :
    Calls Tryz.prog 20 #[.agg #[.int .i64 L, .slice ca nc cc, .slice a n c], .int .i64 x] w fun e w' => ∃ va m vc, e = .returned (.slice va m vc) ∧ m = (hiD n D x).length ∧ AtI w' va (hiD n D x) ∧ Kept w w' := by
  have KA := (Kept.refl w).alloc (.cells #[.int .i64 L, .slice ca nc cc, .slice a n c] 25)
  have hp := rothers_any L ca nc cc a n c D x true hx _ (hD.kept KA) hn
  rw [sideD_hi] at hp
  go_enter Tryz.func20, Tryz.ntmps20
  go_wp2_with fail
  refine hp.mono ?_
  rintro e w2 ⟨va, m, vc, rfl, h1, h2, K2⟩
  go_wp2_with fail
  go_ret
  exact ⟨va, _, vc, rfl, rfl, h2, KA.trans K2⟩
end Go.Proofs.YtlkbphogpbcjfaaGreatDoor
