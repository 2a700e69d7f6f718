/- Ints, the law's own set of two tasks, known. -/
import Derived.Test.YtcfgcbjhlamchaaOrH
namespace Go.Proofs.Ytcfgcbjhlamchaa
open Go.RowKit

set_option maxHeartbeats 2000000 in
theorem ints_any (a b : Option Addr) (c d : Nat) (l m : List Int) (w : World) (hA : AtI w a l) (hB : AtI w b m) (hl : l.length ≤ 100000) (_hml : m.length ≤ 100000) :
    Calls Try.prog 13 #[.slice a l.length c, .slice b m.length d] w fun e w' => e = .returned (.bool (decide (l = m))) ∧ Kept w w' := by
  have HA : Hid (AtI w a l) := hA
  have HB : Hid (AtI w b m) := hB
  clear hA hB
  by_cases hlm : l.length = m.length
  · have hne : ((l.length : Int) != (m.length : Int)) = false := by simp [hlm]
    go_enter Try.func13, Try.ntmps13
    go_wp2_with fail
    go_loopg [5] l.length (fun gk i wr => ∃ j : Nat, i = .int .i64 j ∧ j + gk = l.length ∧ Hid (l.take j = m.take j) ∧ Kept w wr)
    case atStart => exact ⟨0, rfl, by omega, (by show _ = _; simp), Kept.refl w⟩
    case round =>
      obtain ⟨j, rfl, hj, HE, K⟩ := hrel
      by_cases hjp : j < l.length
      · obtain ⟨x, hx⟩ : ∃ x, l[j]? = some x := ⟨_, List.getElem?_eq_getElem hjp⟩
        obtain ⟨y, hy⟩ : ∃ y, m[j]? = some y := ⟨_, List.getElem?_eq_getElem (by omega)⟩
        obtain ⟨b1, f1, rfl, c1⟩ := (HA.out.kept K) j x hx
        obtain ⟨b2, f2, rfl, c2⟩ := (HB.out.kept K) j y hy
        have r1 : (j : Int) < (l.length : Int) := by omega
        have r2 : (j : Int) < (m.length : Int) := by omega
        have r3 : (0 : Int) ≤ (j : Int) := by omega
        obtain ⟨g3', rfl⟩ : ∃ g, gk = g + 1 := ⟨gk - 1, by omega⟩
        by_cases hxy : x = y
        · subst hxy
          have hq : (x != x) = false := by simp
          have HE2 : Hid (l.take (j + 1) = m.take (j + 1)) := by show _ = _; rw [List.take_add_one, List.take_add_one, hx, hy, HE.out]
          clear hx hy HE
          go_wp2_with fail
          go_region_held3 (fun w' => w'.cell? ⟨b1, f1 + j, none⟩ = some (.int .i64 x) ∧ w'.cell? ⟨b2, f2 + j, none⟩ = some (.int .i64 x)) (go_keep) (fail)
          go_wp2_with fail
          go_roundg g3'
          case rel => exact ⟨j + 1, by go_num, by omega, HE2, K.drew⟩
          case measure => omega
        · have hq : (x != y) = true := by simp [hxy]
          have HD : Hid (decide (l = m) = false) := by
            refine decide_eq_false (fun e => hxy ?_)
            rw [e, hy] at hx
            exact (Option.some.inj hx).symm
          clear hx hy HE hxy
          go_wp2_with fail
          go_region_held3 (fun w' => w'.cell? ⟨b1, f1 + j, none⟩ = some (.int .i64 x) ∧ w'.cell? ⟨b2, f2 + j, none⟩ = some (.int .i64 y)) (go_keep) (fail)
          go_wp2_with fail
          go_ret
          rw [HD.out]
          exact ⟨rfl, K.drew⟩
      · have r1 : ¬ (j : Int) < (l.length : Int) := by omega
        have HD : Hid (decide (l = m) = true) := by
          refine decide_eq_true ?_
          have h := HE.out
          rw [List.take_of_length_le (by omega), List.take_of_length_le (by omega)] at h
          exact h
        go_wp2_with fail
        go_ret
        rw [HD.out]
        exact ⟨rfl, K⟩
  · have hne : ((l.length : Int) != (m.length : Int)) = true := by simp; omega
    have HD : Hid (decide (l = m) = false) := decide_eq_false (fun e => hlm (by rw [e]))
    go_enter Try.func13, Try.ntmps13
    go_wp2_with fail
    go_ret
    rw [HD.out]
    exact ⟨rfl, Kept.refl w⟩
theorem ints_same (a b : Option Addr) (c d n : Nat) (l : List Int) (hn : l.length = n) (w : World) (hA : AtI w a l) (hB : AtI w b l) (hl : n ≤ 1000) :
    Calls Try.prog 13 #[.slice a n c, .slice b n d] w fun e w' => e = .returned (.bool true) ∧ Kept w w' := by
  subst hn
  have h := ints_any a b c d l l w hA hB (by omega) (by omega)
  rw [decide_eq_true rfl] at h
  exact h
theorem lit_ints (w : World) (l : List Int) (cells : Array Value) (h : cells = (l.map intV).toArray) : AtI (w.alloc (.cells cells 3)) (some ⟨w.heap.size, 0, none⟩) l := by
  subst h
  intro j x hj
  refine ⟨w.heap.size, 0, rfl, ?_⟩
  rw [World.cell?_alloc_at _ _ _ _ rfl, Nat.zero_add]
  simp [hj, intV]
def fastW : List UInt8 := [102, 97, 115, 116]
def slowW : List UInt8 := [115, 108, 111, 119]
def D2 (j : Nat) : Int := if j = 0 then 8 else 20
theorem results_cell1 {fn : Func} {p : Tmp} {ty : TypeId} (h : fn.results = #[.cell p ty]) (tmps : Array Value) (P : Program) (w : World) :
    (results fn tmps).run P w = ((asAddr (tmps.getD p undef)).run P w).andThen fun a w1 => (loadVar ty a).run P w1 := by
  simp only [results, h]
  simp [Sem.run_bind, Result.andThen]
set_option maxHeartbeats 4000000 in
set_option maxRecDepth 20000 in
theorem two_any (w : World) : Calls Try.prog 22 #[] w fun e w' => e = .returned (.agg #[.int .i64 1, .slice none 0 0, .slice (some ⟨w.heap.size + 1 + 1 + 1 + 1 + 1, 0, none⟩) 2 2]) ∧ Kept w w' ∧
    Box w.heap.size w' 48 (w.heap.size + 1 + 1 + 1 + 1 + 1) [.string (B fastW), .int .i64 10, .int .i64 8, .int .i64 3, .slice (some ⟨w.heap.size + 1, 0, none⟩) 4 4, .string (B slowW), .int .i64 20, .int .i64 20, .int .i64 6, .slice (some ⟨w.heap.size + 1 + 1 + 1, 0, none⟩) 4 4] ∧ w'.heap.size = w.heap.size + 6 := by
  have K6 : Kept w ((((((w.alloc (.cells #[.int .i64 1, .slice none 0 0, .slice (some ⟨w.heap.size + 1 + 1 + 1 + 1 + 1, 0, none⟩) 2 2] 33)).alloc (.cells #[.int .i64 1, .int .i64 1, .int .i64 0, .int .i64 0, .slice none 0 0, .int .i64 2, .int .i64 0, .int .i64 0, .int .i64 0, .slice none 0 0, .int .i64 1, .int .i64 1, .int .i64 0, .int .i64 0, .slice none 0 0, .int .i64 3, .int .i64 0, .int .i64 0, .int .i64 0, .slice none 0 0] 45)).alloc (.cells #[.string { data := #[102, 97, 115, 116] }, .int .i64 10, .int .i64 8, .int .i64 3, .slice (some ⟨w.heap.size + 1, 0, none⟩) 4 4] 48)).alloc (.cells #[.int .i64 2, .int .i64 0, .int .i64 0, .int .i64 0, .slice none 0 0, .int .i64 1, .int .i64 4, .int .i64 0, .int .i64 0, .slice none 0 0, .int .i64 3, .int .i64 0, .int .i64 0, .int .i64 0, .slice none 0 0, .int .i64 1, .int .i64 1, .int .i64 0, .int .i64 0, .slice none 0 0] 45)).alloc (.cells #[.string { data := #[115, 108, 111, 119] }, .int .i64 20, .int .i64 20, .int .i64 6, .slice (some ⟨w.heap.size + 1 + 1 + 1, 0, none⟩) 4 4] 48)).alloc (.cells #[.string { data := #[102, 97, 115, 116] }, .int .i64 10, .int .i64 8, .int .i64 3, .slice (some ⟨w.heap.size + 1, 0, none⟩) 4 4, .string { data := #[115, 108, 111, 119] }, .int .i64 20, .int .i64 20, .int .i64 6, .slice (some ⟨w.heap.size + 1 + 1 + 1, 0, none⟩) 4 4] 48)) := ((((((Kept.refl w).alloc _).alloc _).alloc _).alloc _).alloc _).alloc _
  have HX : Hid (Box w.heap.size ((((((w.alloc (.cells #[.int .i64 1, .slice none 0 0, .slice (some ⟨w.heap.size + 1 + 1 + 1 + 1 + 1, 0, none⟩) 2 2] 33)).alloc (.cells #[.int .i64 1, .int .i64 1, .int .i64 0, .int .i64 0, .slice none 0 0, .int .i64 2, .int .i64 0, .int .i64 0, .int .i64 0, .slice none 0 0, .int .i64 1, .int .i64 1, .int .i64 0, .int .i64 0, .slice none 0 0, .int .i64 3, .int .i64 0, .int .i64 0, .int .i64 0, .slice none 0 0] 45)).alloc (.cells #[.string { data := #[102, 97, 115, 116] }, .int .i64 10, .int .i64 8, .int .i64 3, .slice (some ⟨w.heap.size + 1, 0, none⟩) 4 4] 48)).alloc (.cells #[.int .i64 2, .int .i64 0, .int .i64 0, .int .i64 0, .slice none 0 0, .int .i64 1, .int .i64 4, .int .i64 0, .int .i64 0, .slice none 0 0, .int .i64 3, .int .i64 0, .int .i64 0, .int .i64 0, .slice none 0 0, .int .i64 1, .int .i64 1, .int .i64 0, .int .i64 0, .slice none 0 0] 45)).alloc (.cells #[.string { data := #[115, 108, 111, 119] }, .int .i64 20, .int .i64 20, .int .i64 6, .slice (some ⟨w.heap.size + 1 + 1 + 1, 0, none⟩) 4 4] 48)).alloc (.cells #[.string { data := #[102, 97, 115, 116] }, .int .i64 10, .int .i64 8, .int .i64 3, .slice (some ⟨w.heap.size + 1, 0, none⟩) 4 4, .string { data := #[115, 108, 111, 119] }, .int .i64 20, .int .i64 20, .int .i64 6, .slice (some ⟨w.heap.size + 1 + 1 + 1, 0, none⟩) 4 4] 48)) 48 (w.heap.size + 1 + 1 + 1 + 1 + 1) [.string (B fastW), .int .i64 10, .int .i64 8, .int .i64 3, .slice (some ⟨w.heap.size + 1, 0, none⟩) 4 4, .string (B slowW), .int .i64 20, .int .i64 20, .int .i64 6, .slice (some ⟨w.heap.size + 1 + 1 + 1, 0, none⟩) 4 4]) := by
    have h := box_new w.heap.size (((((w.alloc (.cells #[.int .i64 1, .slice none 0 0, .slice (some ⟨w.heap.size + 1 + 1 + 1 + 1 + 1, 0, none⟩) 2 2] 33)).alloc (.cells #[.int .i64 1, .int .i64 1, .int .i64 0, .int .i64 0, .slice none 0 0, .int .i64 2, .int .i64 0, .int .i64 0, .int .i64 0, .slice none 0 0, .int .i64 1, .int .i64 1, .int .i64 0, .int .i64 0, .slice none 0 0, .int .i64 3, .int .i64 0, .int .i64 0, .int .i64 0, .slice none 0 0] 45)).alloc (.cells #[.string { data := #[102, 97, 115, 116] }, .int .i64 10, .int .i64 8, .int .i64 3, .slice (some ⟨w.heap.size + 1, 0, none⟩) 4 4] 48)).alloc (.cells #[.int .i64 2, .int .i64 0, .int .i64 0, .int .i64 0, .slice none 0 0, .int .i64 1, .int .i64 4, .int .i64 0, .int .i64 0, .slice none 0 0, .int .i64 3, .int .i64 0, .int .i64 0, .int .i64 0, .slice none 0 0, .int .i64 1, .int .i64 1, .int .i64 0, .int .i64 0, .slice none 0 0] 45)).alloc (.cells #[.string { data := #[115, 108, 111, 119] }, .int .i64 20, .int .i64 20, .int .i64 6, .slice (some ⟨w.heap.size + 1 + 1 + 1, 0, none⟩) 4 4] 48)) 48 [.string { data := #[102, 97, 115, 116] }, .int .i64 10, .int .i64 8, .int .i64 3, .slice (some ⟨w.heap.size + 1, 0, none⟩) 4 4, .string { data := #[115, 108, 111, 119] }, .int .i64 20, .int .i64 20, .int .i64 6, .slice (some ⟨w.heap.size + 1 + 1 + 1, 0, none⟩) 4 4] (by simp; omega) (by simp)
    rw [show (((((w.alloc (.cells #[.int .i64 1, .slice none 0 0, .slice (some ⟨w.heap.size + 1 + 1 + 1 + 1 + 1, 0, none⟩) 2 2] 33)).alloc (.cells #[.int .i64 1, .int .i64 1, .int .i64 0, .int .i64 0, .slice none 0 0, .int .i64 2, .int .i64 0, .int .i64 0, .int .i64 0, .slice none 0 0, .int .i64 1, .int .i64 1, .int .i64 0, .int .i64 0, .slice none 0 0, .int .i64 3, .int .i64 0, .int .i64 0, .int .i64 0, .slice none 0 0] 45)).alloc (.cells #[.string { data := #[102, 97, 115, 116] }, .int .i64 10, .int .i64 8, .int .i64 3, .slice (some ⟨w.heap.size + 1, 0, none⟩) 4 4] 48)).alloc (.cells #[.int .i64 2, .int .i64 0, .int .i64 0, .int .i64 0, .slice none 0 0, .int .i64 1, .int .i64 4, .int .i64 0, .int .i64 0, .slice none 0 0, .int .i64 3, .int .i64 0, .int .i64 0, .int .i64 0, .slice none 0 0, .int .i64 1, .int .i64 1, .int .i64 0, .int .i64 0, .slice none 0 0] 45)).alloc (.cells #[.string { data := #[115, 108, 111, 119] }, .int .i64 20, .int .i64 20, .int .i64 6, .slice (some ⟨w.heap.size + 1 + 1 + 1, 0, none⟩) 4 4] 48)).heap.size = w.heap.size + 1 + 1 + 1 + 1 + 1 by simp] at h
    exact h
  have hsz : Hid (((((((w.alloc (.cells #[.int .i64 1, .slice none 0 0, .slice (some ⟨w.heap.size + 1 + 1 + 1 + 1 + 1, 0, none⟩) 2 2] 33)).alloc (.cells #[.int .i64 1, .int .i64 1, .int .i64 0, .int .i64 0, .slice none 0 0, .int .i64 2, .int .i64 0, .int .i64 0, .int .i64 0, .slice none 0 0, .int .i64 1, .int .i64 1, .int .i64 0, .int .i64 0, .slice none 0 0, .int .i64 3, .int .i64 0, .int .i64 0, .int .i64 0, .slice none 0 0] 45)).alloc (.cells #[.string { data := #[102, 97, 115, 116] }, .int .i64 10, .int .i64 8, .int .i64 3, .slice (some ⟨w.heap.size + 1, 0, none⟩) 4 4] 48)).alloc (.cells #[.int .i64 2, .int .i64 0, .int .i64 0, .int .i64 0, .slice none 0 0, .int .i64 1, .int .i64 4, .int .i64 0, .int .i64 0, .slice none 0 0, .int .i64 3, .int .i64 0, .int .i64 0, .int .i64 0, .slice none 0 0, .int .i64 1, .int .i64 1, .int .i64 0, .int .i64 0, .slice none 0 0] 45)).alloc (.cells #[.string { data := #[115, 108, 111, 119] }, .int .i64 20, .int .i64 20, .int .i64 6, .slice (some ⟨w.heap.size + 1 + 1 + 1, 0, none⟩) 4 4] 48)).alloc (.cells #[.string { data := #[102, 97, 115, 116] }, .int .i64 10, .int .i64 8, .int .i64 3, .slice (some ⟨w.heap.size + 1, 0, none⟩) 4 4, .string { data := #[115, 108, 111, 119] }, .int .i64 20, .int .i64 20, .int .i64 6, .slice (some ⟨w.heap.size + 1 + 1 + 1, 0, none⟩) 4 4] 48)).heap.size = w.heap.size + 6) := by show _ = _; simp
  obtain ⟨w6, hw6⟩ : ∃ w6, w6 = ((((((w.alloc (.cells #[.int .i64 1, .slice none 0 0, .slice (some ⟨w.heap.size + 1 + 1 + 1 + 1 + 1, 0, none⟩) 2 2] 33)).alloc (.cells #[.int .i64 1, .int .i64 1, .int .i64 0, .int .i64 0, .slice none 0 0, .int .i64 2, .int .i64 0, .int .i64 0, .int .i64 0, .slice none 0 0, .int .i64 1, .int .i64 1, .int .i64 0, .int .i64 0, .slice none 0 0, .int .i64 3, .int .i64 0, .int .i64 0, .int .i64 0, .slice none 0 0] 45)).alloc (.cells #[.string { data := #[102, 97, 115, 116] }, .int .i64 10, .int .i64 8, .int .i64 3, .slice (some ⟨w.heap.size + 1, 0, none⟩) 4 4] 48)).alloc (.cells #[.int .i64 2, .int .i64 0, .int .i64 0, .int .i64 0, .slice none 0 0, .int .i64 1, .int .i64 4, .int .i64 0, .int .i64 0, .slice none 0 0, .int .i64 3, .int .i64 0, .int .i64 0, .int .i64 0, .slice none 0 0, .int .i64 1, .int .i64 1, .int .i64 0, .int .i64 0, .slice none 0 0] 45)).alloc (.cells #[.string { data := #[115, 108, 111, 119] }, .int .i64 20, .int .i64 20, .int .i64 6, .slice (some ⟨w.heap.size + 1 + 1 + 1, 0, none⟩) 4 4] 48)).alloc (.cells #[.string { data := #[102, 97, 115, 116] }, .int .i64 10, .int .i64 8, .int .i64 3, .slice (some ⟨w.heap.size + 1, 0, none⟩) 4 4, .string { data := #[115, 108, 111, 119] }, .int .i64 20, .int .i64 20, .int .i64 6, .slice (some ⟨w.heap.size + 1 + 1 + 1, 0, none⟩) 4 4] 48)) := ⟨_, rfl⟩
  rw [← hw6] at K6 HX hsz
  go_enter Try.func22, Try.ntmps22
  go_wp2_with fail
  (try simp only [Exit.inBlock, Exit.then])
  rw [← hw6]
  refine bodyPost_ret (v := .agg #[.int .i64 1, .slice none 0 0, .slice (some ⟨w.heap.size + 1 + 1 + 1 + 1 + 1, 0, none⟩) 2 2]) ?_ rfl ⟨rfl, K6, HX.out, hsz.out⟩
  rw [results_cell1 rfl, hw6]
  go_simp
theorem two_d (w : World) : Calls Try.prog 22 #[] w fun e w' => ∃ g, e = .returned (.agg #[.int .i64 1, .slice none 0 0, .slice (some ⟨g, 0, none⟩) 2 2]) ∧ AtD w' (some ⟨g, 0, none⟩) 2 D2 ∧ Kept w w' := by
  refine (two_any w).mono ?_
  rintro e w' ⟨rfl, K, hx, _⟩
  refine ⟨_, rfl, fun j hj => ?_, K⟩
  match j, hj with
  | 0, _ => exact ⟨_, 0, rfl, hx.cell 2 (by simp)⟩
  | 1, _ => exact ⟨_, 0, rfl, hx.cell 7 (by simp)⟩
theorem kn_p : prD 2 D2 = [2, 1] := by decide +kernel
theorem kn_h1 : hiD 2 D2 1 = [0] := by decide +kernel
theorem kn_h0 : hiD 2 D2 0 = [] := by decide +kernel
theorem kn_l0 : loD 2 D2 0 = [1] := by decide +kernel
set_option maxHeartbeats 4000000 in
set_option maxRecDepth 20000 in
theorem known_true (w : World) : Calls Try.prog 7 #[] w fun e w' => e = .returned (.bool true) ∧ Kept w w' := by
  go_enter Try.func7, Try.ntmps7
  go_wp2_with fail
  refine (two_d w).mono ?_
  rintro e w1 ⟨g, rfl, AD, K1⟩
  have HB : Hid (Box w.heap.size (w1.alloc (.cells #[.int .i64 1, .slice none 0 0, .slice (some ⟨g, 0, none⟩) 2 2] 33)) 33 w1.heap.size [.int .i64 1, .slice none 0 0, .slice (some ⟨g, 0, none⟩) 2 2]) := box_new w.heap.size w1 33 [.int .i64 1, .slice none 0 0, .slice (some ⟨g, 0, none⟩) 2 2] K1.size (by simp)
  have KA := K1.alloc (.cells #[.int .i64 1, .slice none 0 0, .slice (some ⟨g, 0, none⟩) 2 2] 33)
  have HD : Hid (AtD (w1.alloc (.cells #[.int .i64 1, .slice none 0 0, .slice (some ⟨g, 0, none⟩) 2 2] 33)) (some ⟨g, 0, none⟩) 2 D2) := AD.kept ((Kept.refl w1).alloc _)
  clear AD K1
  obtain ⟨sb, hsb⟩ : ∃ sb, w1.heap.size = sb := ⟨_, rfl⟩
  rw [hsb] at HB
  go_wp2_with fail
  generalize (w1.alloc (.cells #[.int .i64 1, .slice none 0 0, .slice (some ⟨g, 0, none⟩) 2 2] 33)) = wa at *
  refine (prios_any 1 none 0 0 (some ⟨g, 0, none⟩) 2 2 D2 wa HD.out (by omega) (by omega)).mono ?_
  rintro e w2 ⟨gp, rfl, _, AP, K2⟩
  rw [kn_p] at AP
  have HI2 := ints_same (some ⟨gp, 0, none⟩) (some ⟨w2.heap.size, 0, none⟩) 2 2 2 [2, 1] rfl (w2.alloc (.cells #[.int .i64 2, .int .i64 1] 3)) (AP.kept ((Kept.refl w2).alloc _)) (lit_ints w2 [2, 1] #[.int .i64 2, .int .i64 1] rfl) (by omega)
  have KB2 := K2.alloc (.cells #[.int .i64 2, .int .i64 1] 3)
  clear AP
  go_wp2_with fail
  refine HI2.mono ?_
  rintro e w3 ⟨rfl, K3⟩
  have KK3 := KB2.trans K3
  have B3 := HB.out.kept KK3
  have s0 := B3.cell 0 (by simp)
  have s1 := B3.cell 1 (by simp)
  have s2 := B3.cell 2 (by simp)
  simp only [List.getElem?_cons_zero, List.getElem?_cons_succ] at s0 s1 s2
  clear B3 HI2 K3 KB2 K2
  go_wp2_with fail
  refine (higher_in 1 none 0 0 (some ⟨g, 0, none⟩) 2 2 D2 1 (by omega) w3 (HD.out.kept KK3) (by omega)).mono ?_
  rintro e w4 ⟨v4, m4, c4, rfl, hm4, A4, K4⟩
  rw [kn_h1] at hm4 A4
  simp only [List.length_cons, List.length_nil, Nat.zero_add] at hm4
  subst hm4
  have HI4 := ints_same v4 (some ⟨w4.heap.size, 0, none⟩) c4 1 1 [0] rfl (w4.alloc (.cells #[.int .i64 0] 3)) (A4.kept ((Kept.refl w4).alloc _)) (lit_ints w4 [0] #[.int .i64 0] rfl) (by omega)
  have KB4 := (KK3.trans K4).alloc (.cells #[.int .i64 0] 3)
  clear A4 s0 s1 s2
  go_wp2_with fail
  refine HI4.mono ?_
  rintro e w5 ⟨rfl, K5⟩
  have KK5 := KB4.trans K5
  have B5 := HB.out.kept KK5
  have s0 := B5.cell 0 (by simp)
  have s1 := B5.cell 1 (by simp)
  have s2 := B5.cell 2 (by simp)
  simp only [List.getElem?_cons_zero, List.getElem?_cons_succ] at s0 s1 s2
  clear B5 HI4 K5 KB4 K4 KK3
  go_wp2_with fail
  refine (higher_in 1 none 0 0 (some ⟨g, 0, none⟩) 2 2 D2 0 (by omega) w5 (HD.out.kept KK5) (by omega)).mono ?_
  rintro e w6 ⟨v6, m6, c6, rfl, hm6, A6, K6⟩
  rw [kn_h0] at hm6
  simp only [List.length_nil] at hm6
  subst hm6
  have KK6 := KK5.trans K6
  have B6 := HB.out.kept KK6
  clear A6 s0 s1 s2 K6
  have s0 := B6.cell 0 (by simp)
  have s1 := B6.cell 1 (by simp)
  have s2 := B6.cell 2 (by simp)
  simp only [List.getElem?_cons_zero, List.getElem?_cons_succ] at s0 s1 s2
  clear B6 KK5
  go_wp2_with fail
  refine (lower_in 1 none 0 0 (some ⟨g, 0, none⟩) 2 2 D2 0 (by omega) w6 (HD.out.kept KK6) (by omega)).mono ?_
  rintro e w7 ⟨v7, m7, c7, rfl, hm7, A7, K7⟩
  rw [kn_l0] at hm7 A7
  simp only [List.length_cons, List.length_nil, Nat.zero_add] at hm7
  subst hm7
  have HI7 := ints_same v7 (some ⟨w7.heap.size, 0, none⟩) c7 1 1 [1] rfl (w7.alloc (.cells #[.int .i64 1] 3)) (A7.kept ((Kept.refl w7).alloc _)) (lit_ints w7 [1] #[.int .i64 1] rfl) (by omega)
  have KB7 := (KK6.trans K7).alloc (.cells #[.int .i64 1] 3)
  clear A7 s0 s1 s2
  go_wp2_with fail
  refine HI7.mono ?_
  rintro e w8 ⟨rfl, K8⟩
  have KK8 := KB7.trans K8
  have B8 := HB.out.kept KK8
  have s0 := B8.cell 0 (by simp)
  have s1 := B8.cell 1 (by simp)
  have s2 := B8.cell 2 (by simp)
  simp only [List.getElem?_cons_zero, List.getElem?_cons_succ] at s0 s1 s2
  clear B8 HI7 K8 KB7 K7 KK6
  go_wp2_with fail
  refine (lower_out 1 none 0 0 (some ⟨g, 0, none⟩) 2 2 2 w8 (by omega)).mono ?_
  rintro e w9 ⟨rfl, K9⟩
  clear s0 s1 s2
  go_wp2_with fail
  go_ret
  exact ⟨rfl, (KA.trans KK8).trans K9⟩
end Go.Proofs.Ytcfgcbjhlamchaa
