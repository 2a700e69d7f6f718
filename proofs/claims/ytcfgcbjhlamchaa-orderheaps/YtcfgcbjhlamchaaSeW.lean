/- OrderSets, walked. -/
import Derived.Test.YtcfgcbjhlamchaaSTo
import Derived.Test.YtcfgcbjhlamchaaRPr
namespace Go.Proofs.Ytcfgcbjhlamchaa
open Go.RowKit Go.Sort

set_option maxHeartbeats 2000000 in
theorem rothers_out (L : Int) (ca : Option Addr) (nc cc : Nat) (a : Option Addr) (n c : Nat) (D : Nat → Int) (i : Int) (g : Bool) (hi : ¬ (0 ≤ i ∧ i < (n : Int))) (w : World) (hD : AtD w a n D) (hn : n ≤ 1000) :
    Calls Try.prog 30 #[.agg #[.int .i64 L, .slice ca nc cc, .slice a n c], .int .i64 i, .bool g] w fun e w' => e = .returned (.slice none 0 0) ∧ Kept w w' := by
  have KA := (Kept.refl w).alloc (.cells #[.int .i64 L, .slice ca nc cc, .slice a n c] 25)
  have hp := rprios_any L ca nc cc a n c D _ (hD.kept KA) hn
  by_cases h0 : i < 0
  · go_enter Try.func30, Try.ntmps30
    go_wp2_with fail
    refine hp.mono ?_
    rintro e w2 ⟨va, vc, rfl, _, K2⟩
    go_wp2_with fail
    go_ret
    exact ⟨rfl, KA.trans K2⟩
  · have h1 : i ≥ (n : Int) := by omega
    go_enter Try.func30, Try.ntmps30
    go_wp2_with fail
    refine hp.mono ?_
    rintro e w2 ⟨va, vc, rfl, _, K2⟩
    go_wp2_with fail
    go_ret
    exact ⟨rfl, KA.trans K2⟩
theorem rhigher_any (L : Int) (ca : Option Addr) (nc cc : Nat) (a : Option Addr) (n c : Nat) (D : Nat → Int) (x : Nat) (hx : x < n) (w : World) (hD : AtD w a n D) (hn : n ≤ 1000) :
    Calls Try.prog 16 #[.agg #[.int .i64 L, .slice ca nc cc, .slice a n c], .int .i64 x] w fun e w' => ∃ va m vc, e = .returned (.slice va m vc) ∧ m = (hiD n D x).length ∧ AtI w' va (hiD n D x) ∧ Kept w w' := by
  have KA := (Kept.refl w).alloc (.cells #[.int .i64 L, .slice ca nc cc, .slice a n c] 25)
  have hp := rothers_any L ca nc cc a n c D x true hx _ (hD.kept KA) hn
  rw [sideD_hi] at hp
  go_enter Try.func16, Try.ntmps16
  go_wp2_with fail
  refine hp.mono ?_
  rintro e w2 ⟨va, m, vc, rfl, h1, h2, K2⟩
  go_wp2_with fail
  go_ret
  exact ⟨va, _, vc, rfl, rfl, h2, KA.trans K2⟩
theorem rhigher_out (L : Int) (ca : Option Addr) (nc cc : Nat) (a : Option Addr) (n c : Nat) (D : Nat → Int) (i : Int) (hi : ¬ (0 ≤ i ∧ i < (n : Int))) (w : World) (hD : AtD w a n D) (hn : n ≤ 1000) :
    Calls Try.prog 16 #[.agg #[.int .i64 L, .slice ca nc cc, .slice a n c], .int .i64 i] w fun e w' => e = .returned (.slice none 0 0) ∧ Kept w w' := by
  have KA := (Kept.refl w).alloc (.cells #[.int .i64 L, .slice ca nc cc, .slice a n c] 25)
  have hp := rothers_out L ca nc cc a n c D i true hi _ (hD.kept KA) hn
  go_enter Try.func16, Try.ntmps16
  go_wp2_with fail
  refine hp.mono ?_
  rintro e w2 ⟨rfl, K2⟩
  go_wp2_with fail
  go_ret
  exact ⟨rfl, KA.trans K2⟩
theorem rlower_any (L : Int) (ca : Option Addr) (nc cc : Nat) (a : Option Addr) (n c : Nat) (D : Nat → Int) (x : Nat) (hx : x < n) (w : World) (hD : AtD w a n D) (hn : n ≤ 1000) :
    Calls Try.prog 17 #[.agg #[.int .i64 L, .slice ca nc cc, .slice a n c], .int .i64 x] w fun e w' => ∃ va m vc, e = .returned (.slice va m vc) ∧ m = (loD n D x).length ∧ AtI w' va (loD n D x) ∧ Kept w w' := by
  have KA := (Kept.refl w).alloc (.cells #[.int .i64 L, .slice ca nc cc, .slice a n c] 25)
  have hp := rothers_any L ca nc cc a n c D x false hx _ (hD.kept KA) hn
  rw [sideD_lo] at hp
  go_enter Try.func17, Try.ntmps17
  go_wp2_with fail
  refine hp.mono ?_
  rintro e w2 ⟨va, m, vc, rfl, h1, h2, K2⟩
  go_wp2_with fail
  go_ret
  exact ⟨va, _, vc, rfl, rfl, h2, KA.trans K2⟩
theorem rlower_out (L : Int) (ca : Option Addr) (nc cc : Nat) (a : Option Addr) (n c : Nat) (D : Nat → Int) (i : Int) (hi : ¬ (0 ≤ i ∧ i < (n : Int))) (w : World) (hD : AtD w a n D) (hn : n ≤ 1000) :
    Calls Try.prog 17 #[.agg #[.int .i64 L, .slice ca nc cc, .slice a n c], .int .i64 i] w fun e w' => e = .returned (.slice none 0 0) ∧ Kept w w' := by
  have KA := (Kept.refl w).alloc (.cells #[.int .i64 L, .slice ca nc cc, .slice a n c] 25)
  have hp := rothers_out L ca nc cc a n c D i false hi _ (hD.kept KA) hn
  go_enter Try.func17, Try.ntmps17
  go_wp2_with fail
  refine hp.mono ?_
  rintro e w2 ⟨rfl, K2⟩
  go_wp2_with fail
  go_ret
  exact ⟨rfl, KA.trans K2⟩
def dlT (ts : List TaskD) (j : Nat) : Int := match ts[j]? with
  | some t => t.deadline
  | none => 0
theorem att_d {w : World} {a : Option Addr} {ts : List TaskD} (h : AtT w a ts) : AtD w a ts.length (dlT ts) := by
  intro j hj
  obtain ⟨b, f, e, ht⟩ := h j ts[j] (List.getElem?_eq_getElem hj)
  refine ⟨b, f, e, ?_⟩
  unfold dlT
  rw [List.getElem?_eq_getElem hj]
  exact ht.dl
/-- All the others are on one side or the other. -/
theorem sides_len {n : Nat} {D : Nat → Int} (h1 : 1 ≤ n) {x : Nat} (hx : x < n) : (hiD n D x).length + (loD n D x).length + 1 = n := by
  obtain ⟨R, hR⟩ := row_ex n D h1
  have hat := hR.at hx
  have hk := rank_lt hR hx
  have e1 := congrArg List.length (hR.high hat)
  have e2 := congrArg List.length (hR.low hat)
  have := hR.len
  rw [List.length_mergeSort, List.length_map, List.length_take] at e1
  rw [List.length_mergeSort, List.length_map, List.length_drop] at e2
  omega
/-- What the calls of either side tell of one task. -/
structure Side (f : FuncId) (args : Array Value) (wA : World) (l : List Int) : Prop where
  run : ∀ wx, Kept wA wx → Calls Try.prog f args wx fun e w' => ∃ va vc, e = .returned (.slice va l.length vc) ∧ AtI w' va l ∧ Kept wx w'
theorem Side.kept {f : FuncId} {args : Array Value} {wA wB : World} {l : List Int} (h : Side f args wA l) (k : Kept wA wB) : Side f args wB l := ⟨fun wx kx => h.run wx (k.trans kx)⟩
theorem Side.none {f : FuncId} {args : Array Value} {wA : World} (h : ∀ wx, Kept wA wx → Calls Try.prog f args wx fun e w' => e = .returned (.slice Option.none 0 0) ∧ Kept wx w') : Side f args wA [] :=
  ⟨fun wx kx => (h wx kx).mono (by rintro e w' ⟨rfl, t⟩; exact ⟨Option.none, 0, rfl, by intro j x hj; simp at hj, t⟩)⟩
theorem Side.some {f : FuncId} {args : Array Value} {wA : World} {l : List Int} (h : ∀ wx, Kept wA wx → Calls Try.prog f args wx fun e w' => ∃ va m vc, e = .returned (.slice va m vc) ∧ m = l.length ∧ AtI w' va l ∧ Kept wx w') : Side f args wA l :=
  ⟨fun wx kx => (h wx kx).mono (by rintro e w' ⟨va, m, vc, rfl, rfl, a, t⟩; exact ⟨va, vc, rfl, a, t⟩)⟩
theorem ati_nil (w : World) (a : Option Addr) : AtI w a [] := by intro j x hj; simp at hj
set_option maxHeartbeats 8000000 in
set_option maxRecDepth 20000 in
theorem sets_law (L : Int) (ca ta : Option Addr) (cc tc : Nat) (cs : List ChanD) (ts : List TaskD) (i : Int) (w : World) (hH : AtH w ca cs) (hA : AtT w ta ts) :
    Calls Try.prog 3 #[.agg #[.int .i64 L, .slice ca cs.length cc, .slice ta ts.length tc], .int .i64 i] w fun e w' => e = .returned (.bool true) ∧ Kept w w' := by
  have HH : Hid (AtH w ca cs) := hH
  have HA : Hid (AtT w ta ts) := hA
  have K0 := (Kept.refl w).alloc (.cells #[.int .i64 L, .slice ca cs.length cc, .slice ta ts.length tc] 25)
  have HB : Hid (Box w.heap.size (w.alloc (.cells #[.int .i64 L, .slice ca cs.length cc, .slice ta ts.length tc] 25)) 25 w.heap.size [.int .i64 L, .slice ca cs.length cc, .slice ta ts.length tc]) := box_new w.heap.size w 25 [.int .i64 L, .slice ca cs.length cc, .slice ta ts.length tc] (Nat.le_refl _) (by simp)
  have hk := known_true (w.alloc (.cells #[.int .i64 L, .slice ca cs.length cc, .slice ta ts.length tc] 25))
  clear hH hA
  go_enter Try.func3, Try.ntmps3
  go_wp2_with fail
  refine hk.mono ?_
  rintro e w1 ⟨rfl, T1⟩
  have K1 := K0.trans T1
  have HB1 : Hid (Box w.heap.size w1 25 w.heap.size [.int .i64 L, .slice ca cs.length cc, .slice ta ts.length tc]) := HB.out.kept T1
  clear hk HB K0 T1
  have s0 : w1.cell? ⟨w.heap.size, 0, none⟩ = some (.int .i64 L) := HB1.out.cell 0 (by simp)
  have s1 : w1.cell? ⟨w.heap.size, 1, none⟩ = some (.slice ca cs.length cc) := HB1.out.cell 1 (by simp)
  have s2 : w1.cell? ⟨w.heap.size, 2, none⟩ = some (.slice ta ts.length tc) := HB1.out.cell 2 (by simp)
  have hck := rcset_any L ca ta cc tc cs ts w1 (HH.out.kept K1) (HA.out.kept K1)
  obtain ⟨q1, hq1⟩ : ∃ q, (checkS L cs ts).1 = q := ⟨_, rfl⟩
  obtain ⟨q2, hq2⟩ : ∃ q, (checkS L cs ts).2 = q := ⟨_, rfl⟩
  rw [hq1, hq2] at hck
  have HQ : Hid ((checkS L cs ts).2 = q2) := hq2
  clear hq1 hq2
  go_wp2_with fail
  refine hck.mono ?_
  rintro e w2 ⟨rfl, T2⟩
  have K2 := K1.trans T2
  have HB2 : Hid (Box w.heap.size w2 25 w.heap.size [.int .i64 L, .slice ca cs.length cc, .slice ta ts.length tc]) := HB1.out.kept T2
  clear s0 s1 s2 hck HB1 T2 K1
  have s0 : w2.cell? ⟨w.heap.size, 0, none⟩ = some (.int .i64 L) := HB2.out.cell 0 (by simp)
  have s1 : w2.cell? ⟨w.heap.size, 1, none⟩ = some (.slice ca cs.length cc) := HB2.out.cell 1 (by simp)
  have s2 : w2.cell? ⟨w.heap.size, 2, none⟩ = some (.slice ta ts.length tc) := HB2.out.cell 2 (by simp)
  have hfw := sfew_any L ca ta cc tc cs ts w2 (HA.out.kept K2)
  obtain ⟨fb, hfb⟩ : ∃ fb, fewS cs ts = fb := ⟨_, rfl⟩
  rw [hfb] at hfw
  have HFB : Hid (fewS cs ts = fb) := hfb
  clear hfb
  go_wp2_with fail
  refine hfw.mono ?_
  rintro e w3 ⟨rfl, T3⟩
  have K3 := K2.trans T3
  have HB3 : Hid (Box w.heap.size w3 25 w.heap.size [.int .i64 L, .slice ca cs.length cc, .slice ta ts.length tc]) := HB2.out.kept T3
  clear s0 s1 s2 hfw HB2 T3 K2
  cases fb with
  | false =>
    go_wp2_with fail
    go_ret
    exact ⟨rfl, K3⟩
  | true =>
  by_cases hq0 : q2 = 0
  · subst hq0
    obtain ⟨hn1, hn12, hc8, _, _⟩ := checkS_len HQ.out
    obtain ⟨_, _, hok⟩ := fewS_ok HFB.out
    have hto := sto_any L ca ta cc tc cs ts w3 (HH.out.kept K3) (HA.out.kept K3) hok (by omega) (by omega)
    have s0 : w3.cell? ⟨w.heap.size, 0, none⟩ = some (.int .i64 L) := HB3.out.cell 0 (by simp)
    have s1 : w3.cell? ⟨w.heap.size, 1, none⟩ = some (.slice ca cs.length cc) := HB3.out.cell 1 (by simp)
    have s2 : w3.cell? ⟨w.heap.size, 2, none⟩ = some (.slice ta ts.length tc) := HB3.out.cell 2 (by simp)
    clear HQ HFB hok
    go_wp2_with fail
    refine hto.mono ?_
    rintro e w4 ⟨xa, xc, ya, yc, rfl, _, AX, _, T4⟩
    have K4 := K3.trans T4
    have TA := (Kept.refl w4).alloc (.cells #[.int .i64 L, .slice xa cs.length xc, .slice ya ts.length yc] 33)
    have KA := K4.trans TA
    have HBS : Hid (Box w.heap.size (w4.alloc (.cells #[.int .i64 L, .slice xa cs.length xc, .slice ya ts.length yc] 33)) 25 w.heap.size [.int .i64 L, .slice ca cs.length cc, .slice ta ts.length tc]) := (HB3.out.kept T4).kept TA
    have HBX : Hid (Box w.heap.size (w4.alloc (.cells #[.int .i64 L, .slice xa cs.length xc, .slice ya ts.length yc] 33)) 33 w4.heap.size [.int .i64 L, .slice xa cs.length xc, .slice ya ts.length yc]) := box_new w.heap.size w4 33 [.int .i64 L, .slice xa cs.length xc, .slice ya ts.length yc] K4.size (by simp)
    have DX : AtD (w4.alloc (.cells #[.int .i64 L, .slice xa cs.length xc, .slice ya ts.length yc] 33)) ya ts.length (dlT ts) := (att_d AX).kept TA
    have DS : AtD (w4.alloc (.cells #[.int .i64 L, .slice xa cs.length xc, .slice ya ts.length yc] 33)) ta ts.length (dlT ts) := (att_d HA.out).kept KA
    clear s0 s1 s2 hto AX TA T4 K4 K3 HB3
    obtain ⟨xb, hxb⟩ : ∃ xb, w4.heap.size = xb := ⟨_, rfl⟩
    rw [hxb] at HBX
    have HPR : Side 14 #[.agg #[.int .i64 L, .slice xa cs.length xc, .slice ya ts.length yc]] (w4.alloc (.cells #[.int .i64 L, .slice xa cs.length xc, .slice ya ts.length yc] 33)) (prD ts.length (dlT ts)) := ⟨fun wx kx => (prios_any L xa cs.length xc ya ts.length yc (dlT ts) wx (DX.kept kx) hn1 (by omega)).mono (by
      rintro e w' ⟨g, rfl, _, h1, h2⟩
      exact ⟨_, _, by rw [prD_len], h1, h2⟩)⟩
    have HRP : Side 15 #[.agg #[.int .i64 L, .slice ca cs.length cc, .slice ta ts.length tc]] (w4.alloc (.cells #[.int .i64 L, .slice xa cs.length xc, .slice ya ts.length yc] 33)) (prD ts.length (dlT ts)) := ⟨fun wx kx => (rprios_any L ca cs.length cc ta ts.length tc (dlT ts) wx (DS.kept kx) (by omega)).mono (by
      rintro e w' ⟨va, vc, rfl, h1, h2⟩
      exact ⟨_, _, by rw [prD_len], h1, h2⟩)⟩
    have hsides : ∃ hi lo : List Int, Side 11 #[.agg #[.int .i64 L, .slice xa cs.length xc, .slice ya ts.length yc], .int .i64 i] (w4.alloc (.cells #[.int .i64 L, .slice xa cs.length xc, .slice ya ts.length yc] 33)) hi ∧ Side 12 #[.agg #[.int .i64 L, .slice xa cs.length xc, .slice ya ts.length yc], .int .i64 i] (w4.alloc (.cells #[.int .i64 L, .slice xa cs.length xc, .slice ya ts.length yc] 33)) lo ∧ Side 16 #[.agg #[.int .i64 L, .slice ca cs.length cc, .slice ta ts.length tc], .int .i64 i] (w4.alloc (.cells #[.int .i64 L, .slice xa cs.length xc, .slice ya ts.length yc] 33)) hi ∧ Side 17 #[.agg #[.int .i64 L, .slice ca cs.length cc, .slice ta ts.length tc], .int .i64 i] (w4.alloc (.cells #[.int .i64 L, .slice xa cs.length xc, .slice ya ts.length yc] 33)) lo ∧ hi.length ≤ 1000 ∧ lo.length ≤ 1000 ∧ ((0 ≤ i ∧ i < (ts.length : Int) ∧ hi.length + lo.length + 1 = ts.length) ∨ (¬ (0 ≤ i ∧ i < (ts.length : Int)) ∧ hi.length = 0 ∧ lo.length = 0)) := by
      by_cases hr : 0 ≤ i ∧ i < (ts.length : Int)
      · obtain ⟨x, rfl⟩ : ∃ x : Nat, i = (x : Int) := ⟨i.toNat, by omega⟩
        have hx : x < ts.length := by omega
        have hsl := sides_len (D := dlT ts) hn1 hx
        exact ⟨hiD ts.length (dlT ts) x, loD ts.length (dlT ts) x, Side.some (fun wx kx => higher_in L xa cs.length xc ya ts.length yc (dlT ts) x hx wx (DX.kept kx) (by omega)), Side.some (fun wx kx => lower_in L xa cs.length xc ya ts.length yc (dlT ts) x hx wx (DX.kept kx) (by omega)),
          Side.some (fun wx kx => rhigher_any L ca cs.length cc ta ts.length tc (dlT ts) x hx wx (DS.kept kx) (by omega)), Side.some (fun wx kx => rlower_any L ca cs.length cc ta ts.length tc (dlT ts) x hx wx (DS.kept kx) (by omega)), by omega, by omega, .inl ⟨hr.1, hr.2, hsl⟩⟩
      · exact ⟨[], [], Side.none (fun wx kx => higher_out L xa cs.length xc ya ts.length yc i wx hr), Side.none (fun wx kx => lower_out L xa cs.length xc ya ts.length yc i wx hr),
          Side.none (fun wx kx => rhigher_out L ca cs.length cc ta ts.length tc (dlT ts) i hr wx (DS.kept kx) (by omega)), Side.none (fun wx kx => rlower_out L ca cs.length cc ta ts.length tc (dlT ts) i hr wx (DS.kept kx) (by omega)), by simp, by simp, .inr ⟨hr, rfl, rfl⟩⟩
    obtain ⟨hi, lo, HHI, HLO, HRH, HRL, hhl, hll, hrange⟩ := hsides
    have hPl : (prD ts.length (dlT ts)).length ≤ 1000 := by rw [prD_len]; omega
    obtain ⟨P, hP⟩ : ∃ P, prD ts.length (dlT ts) = P := ⟨_, rfl⟩
    rw [hP] at HPR HRP hPl
    have HRG : Hid ((0 ≤ i ∧ i < (ts.length : Int) ∧ hi.length + lo.length + 1 = ts.length) ∨ (¬ (0 ≤ i ∧ i < (ts.length : Int)) ∧ hi.length = 0 ∧ lo.length = 0)) := hrange
    have HHI' : Hid (Side 11 #[.agg #[.int .i64 L, .slice xa cs.length xc, .slice ya ts.length yc], .int .i64 i] (w4.alloc (.cells #[.int .i64 L, .slice xa cs.length xc, .slice ya ts.length yc] 33)) hi) := HHI
    have HLO' : Hid (Side 12 #[.agg #[.int .i64 L, .slice xa cs.length xc, .slice ya ts.length yc], .int .i64 i] (w4.alloc (.cells #[.int .i64 L, .slice xa cs.length xc, .slice ya ts.length yc] 33)) lo) := HLO
    have X0 : Hid ((w4.alloc (.cells #[.int .i64 L, .slice xa cs.length xc, .slice ya ts.length yc] 33)).cell? ⟨xb, 0, none⟩ = some (.int .i64 L)) := HBX.out.cell 0 (by simp)
    have X1 : Hid ((w4.alloc (.cells #[.int .i64 L, .slice xa cs.length xc, .slice ya ts.length yc] 33)).cell? ⟨xb, 1, none⟩ = some (.slice xa cs.length xc)) := HBX.out.cell 1 (by simp)
    have X2 : Hid ((w4.alloc (.cells #[.int .i64 L, .slice xa cs.length xc, .slice ya ts.length yc] 33)).cell? ⟨xb, 2, none⟩ = some (.slice ya ts.length yc)) := HBX.out.cell 2 (by simp)
    have S0 : Hid ((w4.alloc (.cells #[.int .i64 L, .slice xa cs.length xc, .slice ya ts.length yc] 33)).cell? ⟨w.heap.size, 0, none⟩ = some (.int .i64 L)) := HBS.out.cell 0 (by simp)
    have S1 : Hid ((w4.alloc (.cells #[.int .i64 L, .slice xa cs.length xc, .slice ya ts.length yc] 33)).cell? ⟨w.heap.size, 1, none⟩ = some (.slice ca cs.length cc)) := HBS.out.cell 1 (by simp)
    have S2 : Hid ((w4.alloc (.cells #[.int .i64 L, .slice xa cs.length xc, .slice ya ts.length yc] 33)).cell? ⟨w.heap.size, 2, none⟩ = some (.slice ta ts.length tc)) := HBS.out.cell 2 (by simp)
    have hPR6 := fun (w6 : World) (k : Kept (w4.alloc (.cells #[.int .i64 L, .slice xa cs.length xc, .slice ya ts.length yc] 33)) w6) => HPR.kept k
    have HPR' : Hid (Side 14 #[.agg #[.int .i64 L, .slice xa cs.length xc, .slice ya ts.length yc]] (w4.alloc (.cells #[.int .i64 L, .slice xa cs.length xc, .slice ya ts.length yc] 33)) P) := HPR
    have HRP' : Hid (Side 15 #[.agg #[.int .i64 L, .slice ca cs.length cc, .slice ta ts.length tc]] (w4.alloc (.cells #[.int .i64 L, .slice xa cs.length xc, .slice ya ts.length yc] 33)) P) := HRP
    have HRH' : Hid (Side 16 #[.agg #[.int .i64 L, .slice ca cs.length cc, .slice ta ts.length tc], .int .i64 i] (w4.alloc (.cells #[.int .i64 L, .slice xa cs.length xc, .slice ya ts.length yc] 33)) hi) := HRH
    have HRL' : Hid (Side 17 #[.agg #[.int .i64 L, .slice ca cs.length cc, .slice ta ts.length tc], .int .i64 i] (w4.alloc (.cells #[.int .i64 L, .slice xa cs.length xc, .slice ya ts.length yc] 33)) lo) := HRL
    clear hPR6 HPR HRP HRH HRL HHI HLO hrange hP DX DS HBS HBX
    go_wp2_with fail
    generalize (w4.alloc (.cells #[.int .i64 L, .slice xa cs.length xc, .slice ya ts.length yc] 33)) = wA at *
    have x0 := X0.out
    have x1 := X1.out
    have x2 := X2.out
    have KD0 := (Kept.refl wA).drew
    go_region_held3 (fun w' => w'.cell? ⟨xb, 0, none⟩ = some (.int .i64 L) ∧ w'.cell? ⟨xb, 1, none⟩ = some (.slice xa cs.length xc) ∧ w'.cell? ⟨xb, 2, none⟩ = some (.slice ya ts.length yc)) (go_keep) (first | (go_at_call 11; refine (HHI'.out.run _ KD0).mono ?_; rintro e w5 ⟨va, vc, rfl, A5, T5⟩; have K5 := KD0.trans T5; have aX0 := K5.cell X0.out; have aX1 := K5.cell X1.out; have aX2 := K5.cell X2.out) | (go_at_call 12; refine (HLO'.out.run _ K5).mono ?_; rintro e w6 ⟨vb, vbc, rfl, A6, T6⟩; have K6 := K5.trans T6; have A56 := A5.kept T6; have bX0 := K6.cell X0.out; have bX1 := K6.cell X1.out; have bX2 := K6.cell X2.out) | fail)
    have GH : Hid (AtI w6 va hi) := A56
    have GL : Hid (AtI w6 vb lo) := A6
    have HPR : Hid (Side 14 #[.agg #[.int .i64 L, .slice xa cs.length xc, .slice ya ts.length yc]] w6 P) := HPR'.out.kept K6
    have HRP : Hid (Side 15 #[.agg #[.int .i64 L, .slice ca cs.length cc, .slice ta ts.length tc]] w6 P) := HRP'.out.kept K6
    have HRH : Hid (Side 16 #[.agg #[.int .i64 L, .slice ca cs.length cc, .slice ta ts.length tc], .int .i64 i] w6 hi) := HRH'.out.kept K6
    have HRL : Hid (Side 17 #[.agg #[.int .i64 L, .slice ca cs.length cc, .slice ta ts.length tc], .int .i64 i] w6 lo) := HRL'.out.kept K6
    have Y0 : Hid (w6.cell? ⟨xb, 0, none⟩ = some (.int .i64 L)) := K6.cell X0.out
    have Y1 : Hid (w6.cell? ⟨xb, 1, none⟩ = some (.slice xa cs.length xc)) := K6.cell X1.out
    have Y2 : Hid (w6.cell? ⟨xb, 2, none⟩ = some (.slice ya ts.length yc)) := K6.cell X2.out
    have Z0 : Hid (w6.cell? ⟨w.heap.size, 0, none⟩ = some (.int .i64 L)) := K6.cell S0.out
    have Z1 : Hid (w6.cell? ⟨w.heap.size, 1, none⟩ = some (.slice ca cs.length cc)) := K6.cell S1.out
    have Z2 : Hid (w6.cell? ⟨w.heap.size, 2, none⟩ = some (.slice ta ts.length tc)) := K6.cell S2.out
    have KK6 := KA.trans K6
    clear A5 A56 A6 HPR' HRP' HRH' HRL' HHI' HLO' X0 X1 X2 S0 S1 S2 x0 x1 x2 T5 T6 K5 K6 KD0 KA aX0 bX0 aX1 bX1 aX2 bX2
    go_wp2_with fail
    have M6 := (Kept.refl w6).drew
    have x0 := Y0.out
    have x1 := Y1.out
    have x2 := Y2.out
    have x3 := Z0.out
    have x4 := Z1.out
    have x5 := Z2.out
    go_region_held3 (fun w' => w'.cell? ⟨xb, 0, none⟩ = some (.int .i64 L) ∧ w'.cell? ⟨xb, 1, none⟩ = some (.slice xa cs.length xc) ∧ w'.cell? ⟨xb, 2, none⟩ = some (.slice ya ts.length yc) ∧ w'.cell? ⟨w.heap.size, 0, none⟩ = some (.int .i64 L) ∧ w'.cell? ⟨w.heap.size, 1, none⟩ = some (.slice ca cs.length cc) ∧ w'.cell? ⟨w.heap.size, 2, none⟩ = some (.slice ta ts.length tc)) (go_keep) (first | (go_at_call 14; refine (HPR.out.run _ M6).mono ?_; rintro e w10 ⟨v10, c10, rfl, A10, T10⟩; have M10 := M6.trans T10; have d10Y0 := M10.cell Y0.out; have d10Y1 := M10.cell Y1.out; have d10Y2 := M10.cell Y2.out; have d10Z0 := M10.cell Z0.out; have d10Z1 := M10.cell Z1.out; have d10Z2 := M10.cell Z2.out) | (go_at_call 15; refine (HRP.out.run _ M10).mono ?_; rintro e w11 ⟨v11, c11, rfl, A11, T11⟩; have M11 := M10.trans T11; have B10 := A10.kept T11; have d11Y0 := M11.cell Y0.out; have d11Y1 := M11.cell Y1.out; have d11Y2 := M11.cell Y2.out; have d11Z0 := M11.cell Z0.out; have d11Z1 := M11.cell Z1.out; have d11Z2 := M11.cell Z2.out) | (go_at_call 13; have hgx := A17; refine (ints_same vb v17 vbc c17 lo.length lo rfl _ (GL.out.kept M17) A17 hll).mono ?_; rintro e w18 ⟨rfl, T18⟩; have M18 := M17.trans T18; have d18Y0 := M18.cell Y0.out; have d18Y1 := M18.cell Y1.out; have d18Y2 := M18.cell Y2.out; have d18Z0 := M18.cell Z0.out; have d18Z1 := M18.cell Z1.out; have d18Z2 := M18.cell Z2.out; clear A17) | (go_at_call 13; have hgx := A13; refine (ints_same va v13 vc c13 hi.length hi rfl _ (GH.out.kept M13) A13 hhl).mono ?_; rintro e w14 ⟨rfl, T14⟩; have M14 := M13.trans T14; have d14Y0 := M14.cell Y0.out; have d14Y1 := M14.cell Y1.out; have d14Y2 := M14.cell Y2.out; have d14Z0 := M14.cell Z0.out; have d14Z1 := M14.cell Z1.out; have d14Z2 := M14.cell Z2.out; clear A13 hgx) | (go_at_call 13; have hgx := B10; refine (ints_same v10 v11 c10 c11 P.length P rfl _ B10 A11 hPl).mono ?_; rintro e w12 ⟨rfl, T12⟩; have M12 := M11.trans T12; have d12Y0 := M12.cell Y0.out; have d12Y1 := M12.cell Y1.out; have d12Y2 := M12.cell Y2.out; have d12Z0 := M12.cell Z0.out; have d12Z1 := M12.cell Z1.out; have d12Z2 := M12.cell Z2.out; clear B10 hgx) | (go_at_call 16; refine (HRH.out.run _ M12).mono ?_; rintro e w13 ⟨v13, c13, rfl, A13, T13⟩; have M13 := M12.trans T13; have d13Y0 := M13.cell Y0.out; have d13Y1 := M13.cell Y1.out; have d13Y2 := M13.cell Y2.out; have d13Z0 := M13.cell Z0.out; have d13Z1 := M13.cell Z1.out; have d13Z2 := M13.cell Z2.out) | (go_at_call 17; refine (HRL.out.run _ M14).mono ?_; rintro e w17 ⟨v17, c17, rfl, A17, T17⟩; have M17 := M14.trans T17; have d17Y0 := M17.cell Y0.out; have d17Y1 := M17.cell Y1.out; have d17Y2 := M17.cell Y2.out; have d17Z0 := M17.cell Z0.out; have d17Z1 := M17.cell Z1.out; have d17Z2 := M17.cell Z2.out) | fail)
    have q2 := M18.cell Z2.out
    have KK := KK6.trans M18
    rcases HRG.out with ⟨r1, r2, r3⟩ | ⟨r1, r2, r3⟩
    · have d1 : ¬ i < 0 := by omega
      have d2 : ¬ i ≥ (ts.length : Int) := by omega
      have e1 : ((hi.length : Int) + (lo.length : Int) + 1 == (ts.length : Int)) = true := by simp; omega
      go_wp2_with fail
      go_ret
      exact ⟨rfl, KK⟩
    · have e1 : ((hi.length : Int) + (lo.length : Int) == 0) = true := by simp; omega
      by_cases d1 : i < 0
      · go_wp2_with fail
        go_ret
        exact ⟨rfl, KK⟩
      · have d2 : i ≥ (ts.length : Int) := by omega
        go_wp2_with fail
        go_ret
        exact ⟨rfl, KK⟩
  · have hne : (q2 != 0) = true := by simpa using hq0
    go_wp2_with fail
    go_ret
    exact ⟨rfl, K3⟩
end Go.Proofs.Ytcfgcbjhlamchaa
